/-
  A node that came in, and how much it reads.
-/
import Derived.Test.YtkbdcbcjbgbglaaNo
import Derived.Test.YtkbdcbcjbgbglaaRows
namespace Go.Proofs.Ytkbdcbcjbgbglaa
open Go.RowKit Go.WideShapes Go.ChangeShapes Go.ChangeAt Go.Deep
set_option maxRecDepth 100000
theorem bulk_mem {H : Type} {d : DataW H} : ∀ {l : List (DataW H)}, d ∈ l → Rows.uptoBulk d ≤ Rows.uptoBulkAll l
  | [], h => by simp at h
  | x :: r, h => by
    simp only [Rows.uptoBulkAll]
    rcases List.mem_cons.1 h with rfl | h
    · omega
    · have := bulk_mem h
      omega
theorem open_keys1 {H : Type} {enc : TypeId × Value → H} {W : World} {spare : Nat → Bool} {held : Bool} {v : Value} {fuel : Nat} {x : DataW H × List MemPlace}
    (h : DataW.trod enc Try.prog W 0 spare held fuel 22 [v] = some x) : ∃ A c xs, v = .slice A xs.length c ∧ Rl sv W A c xs ∧ (∀ z ∈ xs, z.length + 1 ≤ Rows.uptoBulk x.1) := by
  rcases open_strs Try.underlying22 Try.underlying9 (by kernel_rfl) h with ⟨hcs, _⟩ | ⟨a, len, cap, m, Sx, hcs, _, hl, hm, hmm, hxx, hcell⟩
  · obtain rfl : v = .slice none 0 0 := by simpa using hcs
    exact ⟨none, 0, [], rfl, Rl.nil_ _ _ _ _, fun x hx => by simp at hx⟩
  · obtain rfl : v = .slice (some a) len cap := by simpa using hcs
    have hlm : len ≤ m := by rw [hmm]; split <;> omega
    have hlen : ((List.range len).map fun i => (Sx i).data.toList).length = len := by simp
    refine ⟨some a, cap, (List.range len).map fun i => (Sx i).data.toList, by rw [hlen], ⟨by rw [hlen]; exact hl, fun h0 => ?_⟩, fun z hz => ?_⟩
    · rw [hlen] at h0
      obtain ⟨b, off, spot⟩ := a
      have c0 := (hcell 0 (by omega)).1
      have hspot : spot = none := by simpa [Addr.add] using World.cell?_spot c0
      subst hspot
      refine ⟨b, off, rfl, World.block_lt_of_cell? _ _ (by simpa [Addr.add] using c0), fun j x hj => ?_⟩
      have hj2 : j < len := by have := (List.getElem?_eq_some_iff.1 hj).1; rw [hlen] at this; exact this
      have hc := (hcell j (by omega)).1
      rw [Addr.add_lit] at hc
      rw [hc]
      rw [List.getElem?_map, List.getElem?_range hj2] at hj
      injection hj with hj
      subst hj
      rfl
    · obtain ⟨i, hi, rfl⟩ := List.mem_map.1 hz
      rw [hxx]
      simp only [Rows.uptoBulk]
      have h1 := bulk_mem (d := (.lit (.string (Sx i).data.toList) : DataW H)) (l := (List.range len).map fun i => .lit (.string (Sx i).data.toList)) (List.mem_map.2 ⟨i, hi, rfl⟩)
      simp only [Rows.uptoBulk] at h1
      omega
theorem open_nodeU {H : Type} {base : Nat} {enc : TypeId × Value → H} {W : World} {v : Value} {d : DataW H} {ps : List MemPlace}
    (hval : Value.okWide Try.prog W .any base 25 v) (hd : DataW.Trod enc Try.prog W 0 (fun _ => true) true 25 v d ps) :
    ∃ lf A c ks B e ds, v = .agg #[.bool lf, .slice A ks.length c, .slice B ds.length e] ∧ Rl sv W A c ks ∧ Rl nv W B e ds ∧ (∀ x ∈ ks, x.length + 1 ≤ Rows.uptoBulk d) := by
  obtain ⟨v0, v1, v2, y0, y1, y2, n, rfl, hd_, _, h0, h1, h2⟩ := Go.Joins.open_agg3 Try.underlying25 (by kernel_rfl) (by kernel_rfl) hval hd
  obtain ⟨lf, e0, _⟩ := DataW.trod_bool Try.underlying4 h0
  obtain rfl : v0 = .bool lf := by simpa using e0
  obtain ⟨A, c, ks, rfl, g1, g2⟩ := open_keys1 h1
  obtain ⟨B, e, ds, rfl, g4, g5⟩ := open_kids0 h2
  refine ⟨lf, A, c, ks, B, e, ds, rfl, g1, g4, fun x hx => ?_⟩
  have := g2 x hx
  rw [hd_]
  simp only [Rows.uptoBulk, Rows.uptoBulkAll]
  omega
end Go.Proofs.Ytkbdcbcjbgbglaa
