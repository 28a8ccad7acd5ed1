/-
  Crash by any cut; the law's fill.
-/
import Derived.Test.YtcinipfmijmiiaaEi
import Derived.Test.YtcinipfmijmiiaaEb
namespace Go.Proofs.Ytcinipfmijmiiaa
open Go.RowKit
set_option linter.unusedSimpArgs false
set_option linter.unusedVariables false
def cutV (c : Int) : Int := if c < 0 then -(c + 1) else c
def cutQ (c : Int) : Nat := (cutV c % 65).toNat
theorem cutV_nn (c : Int) : 0 ≤ cutV c := by unfold cutV; split <;> omega
theorem cutV_mod (c : Int) : (cutV c).tmod 65 = (cutQ c : Int) := by
  rw [Int.tmod_eq_emod_of_nonneg (cutV_nn c)]
  unfold cutQ
  have := cutV_nn c
  omega
set_option maxRecDepth 100000 in
theorem make_bytes (n : Nat) (h2 : n ≤ 1024) (w : World) : (Instr.makeSlice 44 (.int .i64 (n : Int)) (.int .i64 (n : Int))).run Try.prog w = .ok (.slice (some ⟨w.heap.size, 0, none⟩) n n) (w.alloc (.cells (bc (List.replicate n 0)).toArray 5)) := by
  obtain ⟨i0, hi, hz0, hz1, hz2⟩ := info_parts (show (Try.prog.info? 5).map (fun i => (i.zero, i.size, i.bytes)) = some (some (.int .u8 0), 1, 1) by kernel_rfl)
  have := run_make (P := Try.prog) w 44 5 i0 _ Try.underlying44 hi hz0 .i64 .i64 (n : Int) (n : Int) (by omega) (by omega) (by rw [hz2]; omega) (by omega)
  simp only [Int.toNat_natCast, hz1, Nat.mul_one] at this
  rw [this, bc_zeros]
  rw [show (Value.int .u8 0).cells = (List.replicate 1 (Value.int .u8 0)).toArray from rfl, made_zeros _ _ (by omega)]
/-- A text's bytes, round about, to a sector's. -/
def fillTo (l : List UInt8) (k : Nat) : List UInt8 := (List.range 64).map fun j => if j < k then l.getD (j % l.length) 0 else 0
def fillB (l : List UInt8) : List UInt8 := if l = [] then z64 else fillTo l 64
theorem fillTo_len (l : List UInt8) (k : Nat) : (fillTo l k).length = 64 := by unfold fillTo; simp
theorem fillB_len (l : List UInt8) : (fillB l).length = 64 := by
  unfold fillB; split
  · exact z64_len
  · exact fillTo_len _ _
theorem fillTo_zero (l : List UInt8) : fillTo l 0 = z64 := by
  unfold fillTo z64
  apply List.ext_getElem
  · simp
  · intro i h1 h2
    rw [List.getElem_map, if_neg (Nat.not_lt_zero _), List.getElem_replicate]
theorem fillTo_set (l : List UInt8) (k : Nat) (hk : k < 64) : (bc (fillTo l k)).toArray.setIfInBounds k (.int .u8 ((l.getD (k % l.length) 0).toNat : Int)) = (bc (fillTo l (k + 1))).toArray := by
  apply Array.ext_getElem?
  intro i
  rw [Array.getElem?_setIfInBounds]
  unfold bc fillTo
  simp only [List.getElem?_toArray, List.getElem?_map, List.size_toArray, List.length_map, List.length_range]
  by_cases h : k = i
  · subst h
    rw [if_pos rfl, if_pos hk, List.getElem?_range hk]
    simp
  · rw [if_neg h]
    by_cases h2 : i < 64
    · rw [List.getElem?_range h2]
      simp only [Option.map_some]
      by_cases h3 : i < k
      · rw [if_pos h3, if_pos (by omega)]
      · rw [if_neg h3, if_neg (by omega)]
    · rw [List.getElem?_eq_none (by simp; omega)]; rfl

end Go.Proofs.Ytcinipfmijmiiaa
