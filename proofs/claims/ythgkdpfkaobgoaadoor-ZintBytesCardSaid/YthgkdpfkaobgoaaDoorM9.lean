import Derived.Test.YthgkdpfkaobgoaaDoorRows
import Derived.Test.YthgkdpfkaobgoaaDoorM0
import Derived.WalkKit
import Derived.ProofKit
import Derived.OpenShut
import Derived.ChangeSame
import Derived.Test.YthgkdpfkaobgoaaDoorM3
import Derived.LaidMore
import Derived.Stop.Joined
import Derived.Stop.LaidErr
import Derived.Lib.SmallJoins
section
/-
  From a law's walk to its statement: what comes in is opened, read again behind the call, and handed on.
-/
namespace Go.Proofs.YthgkdpfkaobgoaaDoor
open Go.RowKit Go.WideShapes Go.ChangeShapes Go.ChangeAt
set_option maxRecDepth 100000
theorem own : ownKnob Tryd.prog.godebug = none := by kernel_rfl
theorem laidOut : laidOutB Tryd.prog = true := by kernel_rfl
theorem below_cell_lt {w : World} {b o : Nat} {v : Value} (h : w.cell? ⟨b, o, none⟩ = some v) : b < w.heap.size := by
  rcases Nat.lt_or_ge b w.heap.size with hlt | hge
  · exact hlt
  · have e := Array.getElem?_eq_none hge
    simp [World.cell?, e] at h
theorem cellsElem : Tryd.prog.cellsOf 75 = 1 := by kernel_rfl
/-- A slice of digits that came in. -/
theorem open_dg {H : Type} {enc : TypeId × Value → H} {W : World} {base : Nat} {spare : Nat → Bool} {held : Bool} {v : Value} {d : DataW H} {ps : List MemPlace}
    (hval : Value.okWide Tryd.prog W .any base 22 v) (hd : DataW.Trod enc Tryd.prog W 0 spare held 22 v d ps) : ∃ A c xs, v = .slice A xs.length c ∧ Dg W A c xs := by
  obtain ⟨a0, len, cap, rfl⟩ := okWide_slice Tryd.underlying22 hval
  obtain ⟨fuel, hf⟩ := hd
  rcases open_ints Tryd.underlying22 Tryd.underlying75 cellsElem hf with ⟨hcs, _⟩ | ⟨a, len', cap', zs, hcs, _, hl, hm, hz, _, hcell, hwz⟩
  · simp [Value.cells] at hcs
    obtain ⟨rfl, rfl, rfl⟩ := hcs
    exact ⟨none, 0, [], rfl, Dg.nil_ _ _⟩
  · simp [Value.cells] at hcs
    obtain ⟨rfl, rfl, rfl⟩ := hcs
    have hlz : len ≤ zs.length := by rw [hz]; split <;> omega
    have hn : ∀ n ∈ zs, 0 ≤ n ∧ n ≤ 4294967295 := fun n hn => by simpa [Lit.wf, IntKind.min, IntKind.max, IntKind.signed, IntKind.bits] using hwz n hn
    have hxl : ((zs.take len).map Int.toNat).length = len := by simp; omega
    refine ⟨some a, cap, (zs.take len).map Int.toNat, by rw [hxl], by rw [hxl]; exact hl, ?_, fun h0 => ?_⟩
    · intro x hx
      obtain ⟨z, hz', rfl⟩ := List.mem_map.1 hx
      have := hn z (List.mem_of_mem_take hz')
      omega
    · rw [hxl] at h0
      obtain ⟨b, off, spot⟩ := a
      have hspot : spot = none := by simpa [Addr.add] using World.cell?_spot (hcell 0 (by omega))
      subst hspot
      refine ⟨b, off, rfl, below_cell_lt (v := .int .u32 (zs.getD 0 0)) (o := off) (by have := hcell 0 (by omega); simpa [Addr.add] using this), fun j hj => ?_⟩
      rw [hxl] at hj
      have hc := hcell j (by omega)
      rw [Addr.add_lit] at hc
      rw [hc]
      have hjz : j < zs.length := by omega
      have hb := hn zs[j] (List.getElem_mem hjz)
      simp [hj, List.getElem?_eq_getElem hjz]
      omega
section
variable {H : Type} {enc : TypeId × Value → H} {P : Program}
/-- A law's end: true; older memory stays; each argument reads as it read. -/
theorem law_post {f : Func} {s : ChangeSpec} {W W' : World} {args : Array Value} {ds : List (DataW H)} {before : List MemPlace} {tb : TypeId}
    (hW : DataW.Whole enc P f.params.toList s.vars false W args.toList ds [] before) (hb : Below W.heap.size W W') (hv : s.vars = []) (hrt : f.resultTypes = #[tb]) (htb : P.underlying tb = some .bool)
    (hsr : (s.fn H (ds ++ [])).results = [.lit (.bool true)]) (hsv : (s.fn H (ds ++ [])).vars = [])
    (hargs : ∀ sp : Nat → Bool, (∀ p ∈ before, sp p.block = true) → DataW.TrodAll enc P W' 0 sp true f.params.toList args.toList (s.fn H (ds ++ [])).args before) :
    s.post enc P f false true false false W args (.bool true) W' := by
  have hlt : ∀ p ∈ before, p.block < W.heap.size := fun p hp => hW.lt p hp
  have hold : ∀ p ∈ before, (fun b => decide (b < W.heap.size)) p.block = true := fun p hp => by simpa using hlt p hp
  have hvars : ∀ sp : Nat → Bool, DataW.TrodVars enc P W' sp s.vars (s.fn H (ds ++ [])).vars [] := fun sp => by rw [hv, hsv]; rfl
  refine ⟨ds, [], before, [], before, [], hW, ?_, hargs _ hold, hvars _, World.keptBut_mono (fun p hp => ⟨hp, by simpa using hp⟩) (hb.frame (· ∈ before)), fun h => by cases h⟩
  rw [hrt, hsr]
  exact trodAll_cons_mk (shut_bool htb _) trodAll_mk0
end
/-- An argument reads behind the call as it read ahead of it. -/
theorem again {H : Type} {enc : TypeId × Value → H} {W W' : World} {t : TypeId} {v : Value} {d : DataW H} {ps : List MemPlace} (hr : Tryd.prog.readableRec t = true) (hrow : t < Tryd.prog.types.size)
    (h : DataW.Trod enc Tryd.prog W 0 (fun _ => true) true t v d ps) (hb : Below W.heap.size W W') (hlt : ∀ x ∈ ps, x.block < W.heap.size) (sp : Nat → Bool) (hsp : ∀ x ∈ ps, sp x.block = true) :
    DataW.Trod enc Tryd.prog W' 0 sp true t v d ps :=
  WideElems.Trod_stays laidOut hr hrow h (fun x hx => hb.same (hlt x hx)) hsp
end Go.Proofs.YthgkdpfkaobgoaaDoor
end

section
/-
  From a walk of layer 4 to its card: what the laid tables give, and a whole number that comes in.
-/
namespace Go.Proofs.YthgkdpfkaobgoaaDoor
open Go.RowKit Go.WideShapes Go.ChangeShapes Go.ChangeAt Go.Deep
set_option maxRecDepth 100000
theorem i64_lo {a : Int} (g : (Lit.int .i64 a).wf = true) : -9223372036854775808 ≤ a := by
  simp only [Lit.wf, Bool.and_eq_true, decide_eq_true_eq] at g; exact g.1
theorem i64_hi {a : Int} (g : (Lit.int .i64 a).wf = true) : a ≤ 9223372036854775807 := by
  simp only [Lit.wf, Bool.and_eq_true, decide_eq_true_eq] at g; exact g.2
theorem i32_lo {a : Int} (g : (Lit.int .i32 a).wf = true) : -2147483648 ≤ a := by
  simp only [Lit.wf, Bool.and_eq_true, decide_eq_true_eq] at g; exact g.1
theorem i32_hi {a : Int} (g : (Lit.int .i32 a).wf = true) : a ≤ 2147483647 := by
  simp only [Lit.wf, Bool.and_eq_true, decide_eq_true_eq] at g; exact g.2
theorem gPow : Tryd.prog.globalNamed "internal/strconv.uint64pow10" = some 1 := by kernel_rfl
theorem tPow : (Tryd.prog.globals[1]?).map (·.type) = some 127 := by kernel_rfl
/-- THE TABLE OF POWERS, out of the row's condition. -/
theorem p10_laid {W : World} {a b : String × DataW Unit} (h : laidMet Tryd.prog (a :: b :: ("internal/strconv.uint64pow10", Lib.tabData .u64 Lib.pow10Tab) :: []) W) : P10 W :=
  Lib.tabIs_of_head gPow tPow Tryd.underlying127 Tryd.underlying67 (by kernel_rfl) (by kernel_rfl) h.tail.tail
/-- Digits that came in as a part. -/
theorem open_dg0 {H : Type} {enc : TypeId × Value → H} {W : World} {spare : Nat → Bool} {held : Bool} {a0 : Option Addr} {len cap : Nat} {y : DataW H × List MemPlace}
    (hd : ∃ n, DataW.trod enc Tryd.prog W 0 spare held n 22 [.slice a0 len cap] = some y) : ∃ A c xs, Value.slice a0 len cap = .slice A xs.length c ∧ Dg W A c xs ∧ xs.length ≤ 9223372036854775807 := by
  obtain ⟨fuel, hf⟩ := hd
  obtain ⟨d, ps⟩ := y
  rcases open_ints Tryd.underlying22 Tryd.underlying75 cellsElem hf with ⟨hcs, _⟩ | ⟨a, len', cap', zs, hcs, _, hl, hm, hz, _, hcell, hwz⟩
  · simp at hcs
    obtain ⟨rfl, rfl, rfl⟩ := hcs
    exact ⟨none, 0, [], rfl, Dg.nil_ _ _, by simp⟩
  · simp at hcs
    obtain ⟨rfl, rfl, rfl⟩ := hcs
    have hlz : len ≤ zs.length := by rw [hz]; split <;> omega
    have hn : ∀ n ∈ zs, 0 ≤ n ∧ n ≤ 4294967295 := fun n hn => by simpa [Lit.wf, IntKind.min, IntKind.max, IntKind.signed, IntKind.bits] using hwz n hn
    have hxl : ((zs.take len).map Int.toNat).length = len := by simp; omega
    refine ⟨some a, cap, (zs.take len).map Int.toNat, by rw [hxl], ⟨by rw [hxl]; exact hl, ?_, fun h0 => ?_⟩, by rw [hxl]; unfold maxLen at hm; omega⟩
    · intro x hx
      obtain ⟨z, hz', rfl⟩ := List.mem_map.1 hx
      have := hn z (List.mem_of_mem_take hz')
      omega
    · rw [hxl] at h0
      obtain ⟨b, off, spot⟩ := a
      have hspot : spot = none := by simpa [Addr.add] using World.cell?_spot (hcell 0 (by omega))
      subst hspot
      refine ⟨b, off, rfl, below_cell_lt (v := .int .u32 (zs.getD 0 0)) (o := off) (by have := hcell 0 (by omega); simpa [Addr.add] using this), fun j hj => ?_⟩
      rw [hxl] at hj
      have hc := hcell j (by omega)
      rw [Addr.add_lit] at hc
      rw [hc]
      have hjz : j < zs.length := by omega
      have hb := hn zs[j] (List.getElem_mem hjz)
      simp [hj, List.getElem?_eq_getElem hjz]
      omega
/-- A whole number that came in. -/
theorem open_z {H : Type} {enc : TypeId × Value → H} {W : World} {base : Nat} {v : Value} {d : DataW H} {ps : List MemPlace}
    (hval : Value.okWide Tryd.prog W .any base 24 v) (hd : DataW.Trod enc Tryd.prog W 0 (fun _ => true) true 24 v d ps) :
    ∃ s A c xs, v = .agg #[.bool s, .slice A xs.length c] ∧ Dg W A c xs ∧ xs.length ≤ 9223372036854775807 := by
  obtain ⟨v0, v1, y0, y1, n, rfl, _, _, h0, h1⟩ := Go.Joins.open_agg2 Tryd.underlying24 (by kernel_rfl) (by kernel_rfl) hval hd
  obtain ⟨s, e0, _⟩ := DataW.trod_bool Tryd.underlying4 h0
  obtain rfl : v0 = .bool s := by simpa using e0
  obtain ⟨a0, len, cap, e1⟩ := Go.Joins.slice_form Tryd.underlying22 h1
  obtain rfl : v1 = .slice a0 len cap := by simpa using e1
  obtain ⟨A, c, xs, e, g⟩ := open_dg0 ⟨n, h1⟩
  exact ⟨s, A, c, xs, by rw [e], g⟩
end Go.Proofs.YthgkdpfkaobgoaaDoor
end
