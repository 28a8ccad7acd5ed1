/-
  A list of strings, and a node, that came in.
-/
import Derived.Test.YtcinipfmijmiiaaCl
import Derived.Test.YtcinipfmijmiiaaNa
import Derived.Deep.Strs
import Derived.ChangeSlices
import Derived.Lib.SmallJoins
import Derived.ChangeArms
namespace Go.Proofs.Ytcinipfmijmiiaa
open Go.RowKit Go.WideShapes Go.ChangeShapes Go.ChangeAt Go.Deep
set_option maxRecDepth 100000
theorem i64_lo {a : Int} (g : (Lit.int .i64 a).wf = true) : -9223372036854775808 ≤ a := by
  simp only [Lit.wf, Bool.and_eq_true, decide_eq_true_eq] at g; exact g.1
theorem i64_hi {a : Int} (g : (Lit.int .i64 a).wf = true) : a ≤ 9223372036854775807 := by
  simp only [Lit.wf, Bool.and_eq_true, decide_eq_true_eq] at g; exact g.2
theorem open_keys0 {H : Type} {enc : TypeId × Value → H} {W : World} {spare : Nat → Bool} {held : Bool} {v : Value} {fuel : Nat} {x : DataW H × List MemPlace}
    (h : DataW.trod enc Try.prog W 0 spare held fuel 22 [v] = some x) : ∃ A c xs, v = .slice A xs.length c ∧ Rl sv W A c xs ∧ (∀ x ∈ xs, x.length ≤ maxLen) ∧ xs.length ≤ maxLen := by
  rcases open_strs Try.underlying22 Try.underlying9 (by kernel_rfl) h with ⟨hcs, _⟩ | ⟨a, len, cap, m, Sx, hcs, _, hl, hm, hmm, _, hcell⟩
  · obtain rfl : v = .slice none 0 0 := by simpa using hcs
    exact ⟨none, 0, [], rfl, Rl.nil_ _ _ _ _, fun x hx => by simp at hx, by simp⟩
  · obtain rfl : v = .slice (some a) len cap := by simpa using hcs
    have hlm : len ≤ m := by rw [hmm]; split <;> omega
    have hlen : ((List.range len).map fun i => (Sx i).data.toList).length = len := by simp
    refine ⟨some a, cap, (List.range len).map fun i => (Sx i).data.toList, by rw [hlen], ⟨by rw [hlen]; exact hl, fun h0 => ?_⟩, fun x hx => ?_, by rw [hlen]; omega⟩
    · rw [hlen] at h0
      obtain ⟨b, off, spot⟩ := a
      have c0 := (hcell 0 (by omega)).1
      have hspot : spot = none := by simpa [Addr.add] using World.cell?_spot c0
      subst hspot
      refine ⟨b, off, rfl, World.block_lt_of_cell? _ _ (by simpa [Addr.add] using c0), fun j x hj => ?_⟩
      have hj2 : j < len := by have := (List.getElem?_eq_some_iff.1 hj).1; rw [hlen] at this; exact this
      have hc := (hcell j (by omega)).1
      rw [Addr.add_lit] at hc
      rw [hc]
      rw [List.getElem?_map, List.getElem?_range hj2] at hj
      injection hj with hj
      subst hj
      rfl
    · obtain ⟨i, hi, rfl⟩ := List.mem_map.1 hx
      have := (hcell i (by have := List.mem_range.1 hi; omega)).2
      rw [← Lib.size_eq]
      exact this
theorem open_kids0 {H : Type} {enc : TypeId × Value → H} {W : World} {spare : Nat → Bool} {held : Bool} {v : Value} {fuel : Nat} {x : DataW H × List MemPlace}
    (h : DataW.trod enc Try.prog W 0 spare held fuel 31 [v] = some x) : ∃ A c xs, v = .slice A xs.length c ∧ Rl nv W A c xs ∧ xs.length ≤ maxLen := by
  rcases open_ints Try.underlying31 Try.underlying3 (by kernel_rfl) h with ⟨hcs, _⟩ | ⟨a, len, cap, zs, hcs, _, hl, hm, hz, _, hcell, _⟩
  · obtain rfl : v = .slice none 0 0 := by simpa using hcs
    exact ⟨none, 0, [], rfl, Rl.nil_ _ _ _ _, by simp⟩
  · obtain rfl : v = .slice (some a) len cap := by simpa using hcs
    have hlz : len ≤ zs.length := by rw [hz]; split <;> omega
    have hxl : (zs.take len).length = len := by simp; omega
    refine ⟨some a, cap, zs.take len, by rw [hxl], ⟨by rw [hxl]; exact hl, fun h0 => ?_⟩, by rw [hxl]; omega⟩
    rw [hxl] at h0
    obtain ⟨b, off, spot⟩ := a
    have hspot : spot = none := by simpa [Addr.add] using World.cell?_spot (hcell 0 (by omega))
    subst hspot
    refine ⟨b, off, rfl, World.block_lt_of_cell? _ _ (by simpa [Addr.add] using hcell 0 (by omega)), fun j x hj => ?_⟩
    have hj2 : j < len := by have := (List.getElem?_eq_some_iff.1 hj).1; rw [hxl] at this; exact this
    have hc := hcell j (by omega)
    rw [Addr.add_lit] at hc
    rw [hc]
    rw [List.getElem?_take, if_pos hj2] at hj
    unfold nv
    rw [List.getD_eq_getElem?_getD, hj]
    rfl
theorem open_strl {H : Type} {base : Nat} {enc : TypeId × Value → H} {W : World} {v : Value} {d : DataW H} {ps : List MemPlace}
    (hval : Value.okWide Try.prog W .any base 22 v) (hd : DataW.Trod enc Try.prog W 0 (fun _ => true) true 22 v d ps) : ∃ A c xs, v = .slice A xs.length c ∧ Rl sv W A c xs ∧ (∀ x ∈ xs, x.length ≤ maxLen) ∧ xs.length ≤ maxLen := by
  obtain ⟨a0, len, cap, rfl⟩ := okWide_slice Try.underlying22 hval
  obtain ⟨fuel, hf⟩ := hd
  have hf' : DataW.trod enc Try.prog W 0 (fun _ => true) true fuel 22 [.slice a0 len cap] = some (d, ps) := by simpa [Value.cells] using hf
  exact open_keys0 hf'
end Go.Proofs.Ytcinipfmijmiiaa
