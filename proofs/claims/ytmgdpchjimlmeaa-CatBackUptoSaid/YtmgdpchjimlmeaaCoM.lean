/-
  A list of versions that came in.
-/
import Derived.Test.YtmgdpchjimlmeaaCl
import Derived.Test.YtmgdpchjimlmeaaCaM
import Derived.Deep.SlicePairs
import Derived.Lib.SmallJoins
namespace Go.Proofs.Ytmgdpchjimlmeaa.Cat
open Go.RowKit Go.WideShapes Go.ChangeShapes Go.ChangeAt Go.Deep
set_option maxRecDepth 100000
theorem i64_lo {a : Int} (g : (Lit.int .i64 a).wf = true) : -9223372036854775808 ≤ a := by
  simp only [Lit.wf, Bool.and_eq_true, decide_eq_true_eq] at g; exact g.1
theorem i64_hi {a : Int} (g : (Lit.int .i64 a).wf = true) : a ≤ 9223372036854775807 := by
  simp only [Lit.wf, Bool.and_eq_true, decide_eq_true_eq] at g; exact g.2
theorem open_list {H : Type} {enc : TypeId × Value → H} {W : World} {base : Nat} {v : Value} {d : DataW H} {ps : List MemPlace}
    (hval : Value.okWide Try.prog W .any base 24 v) (hd : DataW.Trod enc Try.prog W 0 (fun _ => true) true 24 v d ps) :
    ∃ next A c vs, v = .agg #[.int .i64 next, .slice A vs.length c] ∧ Vs W A c vs := by
  obtain ⟨v0, v1, y0, y1, n, rfl, _, _, h0, h1⟩ := Go.Joins.open_agg2 Try.underlying24 (by kernel_rfl) (by kernel_rfl) hval hd
  obtain ⟨m, e0, _, _⟩ := DataW.trod_int Try.underlying3 h0
  obtain rfl : v0 = .int .i64 m := by simpa using e0
  rcases open_slice_pairs Try.underlying22 Try.underlying54 (by kernel_rfl) rfl rfl (by kernel_rfl) (by kernel_rfl) h1 with ⟨hcs, _⟩ | ⟨a, len, cap, mm, nn, V0, V1, D0, D1, P0, P1, hcs, _, hl, hm, hmm, _, hx⟩
  · obtain rfl : v1 = .slice none 0 0 := by simpa using hcs
    exact ⟨m, none, 0, [], rfl, Vs.nil_ _ _⟩
  · obtain rfl : v1 = .slice (some a) len cap := by simpa using hcs
    have hlm : len ≤ mm := by rw [hmm]; split <;> omega
    have each : ∀ i, i < mm → ∃ q : Int × Int, V0 i = .int .i64 q.1 ∧ V1 i = .int .i64 q.2 := by
      intro i hi
      obtain ⟨_, _, t0, t1⟩ := hx i hi
      obtain ⟨z0, e0, _, _⟩ := DataW.trod_int Try.underlying3 t0
      obtain ⟨z1, e1, _, _⟩ := DataW.trod_int Try.underlying3 t1
      exact ⟨(z0, z1), by simpa using e0, by simpa using e1⟩
    obtain ⟨q, hq⟩ := choose_lt each
    have hlen : ((List.range len).map q).length = len := by simp
    refine ⟨m, some a, cap, (List.range len).map q, by rw [hlen], by rw [hlen]; exact hl, fun h0 => ?_⟩
    rw [hlen] at h0
    obtain ⟨b, off, spot⟩ := a
    have c00 := (hx 0 (by omega)).1
    have hspot : spot = none := by simpa [Addr.add] using World.cell?_spot c00
    subst hspot
    refine ⟨b, off, rfl, World.block_lt_of_cell? _ _ (by simpa [Addr.add] using c00), fun j hj => ?_⟩
    rw [hlen] at hj
    obtain ⟨a1, a2, _, _⟩ := hx j (by omega)
    obtain ⟨q1, q2⟩ := hq j (by omega)
    rw [Addr.add_lit] at a1 a2
    have e : at2 ((List.range len).map q) j = q j := by
      unfold at2
      rw [List.getElem?_map, List.getElem?_range hj]
      rfl
    rw [e, a1, q1]
    exact ⟨rfl, by rw [← q2, ← a2, Nat.add_assoc]⟩
end Go.Proofs.Ytmgdpchjimlmeaa.Cat
