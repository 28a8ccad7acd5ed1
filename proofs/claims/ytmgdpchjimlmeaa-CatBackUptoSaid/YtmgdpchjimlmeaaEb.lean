/-
  disk.New.
-/
import Derived.Test.YtmgdpchjimlmeaaEa
namespace Go.Proofs.Ytmgdpchjimlmeaa
open Go.RowKit
set_option linter.unusedSimpArgs false
set_option linter.unusedVariables false
theorem zero64 : 105 = 105 ∧ bc z64 = List.replicate 64 (.int .u8 0) := ⟨rfl, by unfold bc z64; rw [List.map_replicate]; rfl⟩
theorem bc_zeros (m : Nat) : bc (List.replicate m 0) = List.replicate m (.int .u8 0) := by unfold bc; rw [List.map_replicate]; rfl
theorem flat_zeros (n : Nat) : (List.replicate n z64).flatten = List.replicate (n * 64) 0 := by unfold z64; rw [List.flatten_replicate_replicate]
theorem made_zeros (m k : Nat) (hk : 0 < k) : madeCells (List.replicate k (Value.int .u8 0)).toArray m = (List.replicate m (Value.int .u8 0)).toArray := by
  apply Array.ext
  · rw [size_madeCells]; simp
  · intro i h1 h2
    have hi : i % k < k := Nat.mod_lt _ hk
    simp [madeCells, hi]
set_option maxRecDepth 100000 in
theorem make_sectors (n : Nat) (h2 : n ≤ 1024) (w : World) : (Instr.makeSlice 55 (.int .i64 (n : Int)) (.int .i64 (n : Int))).run Try.prog w = .ok (.slice (some ⟨w.heap.size, 0, none⟩) n n) (w.alloc (.cells (bc (List.replicate n z64).flatten).toArray 105)) := by
  obtain ⟨i0, hi, hz0, hz1, hz2⟩ := info_parts (show (Try.prog.info? 105).map (fun i => (i.zero, i.size, i.bytes)) = some (some (.agg (List.replicate 64 (Value.int .u8 0)).toArray), 64, 64) by kernel_rfl)
  have := run_make (P := Try.prog) w 55 105 i0 _ Try.underlying55 hi hz0 .i64 .i64 (n : Int) (n : Int) (by omega) (by omega) (by rw [hz2]; omega) (by omega)
  simp only [Int.toNat_natCast, hz1] at this
  rw [this]
  show _ = Result.ok _ (w.alloc (.cells (bc (List.replicate n z64).flatten).toArray _))
  rw [flat_zeros, bc_zeros]
  rw [show (Value.agg (List.replicate 64 (Value.int .u8 0)).toArray).cells = (List.replicate 64 (Value.int .u8 0)).toArray from rfl, made_zeros _ _ (by omega)]
set_option maxHeartbeats 1000000 in
set_option maxRecDepth 100000 in
theorem new_any (n : Nat) (h1 : 1 ≤ n) (h2 : n ≤ 1024) (w : World) :
    Calls Try.prog 6 #[.int .i64 (n : Int)] w fun e w' => ∃ g gs, e = .returned (.tuple #[.pointer (some ⟨g, 0, none⟩), .int .i64 0]) ∧ Dk w'.heap.size w' g gs (.slice none 0 0) (List.replicate n z64) [] ∧ Below w.heap.size w w' ∧ w.heap.size ≤ g ∧ w.heap.size ≤ gs := by
  have hmk := make_sectors n h2
  have hl : (List.replicate n z64).length = n := List.length_replicate
  have h64 : ∀ s ∈ List.replicate n z64, s.length = 64 := fun s hs => by rw [List.eq_of_mem_replicate hs]; exact z64_len
  have d1 : decide ((n : Int) < 1) = false := decide_eq_false (by omega)
  have d2 : decide ((1024 : Int) < (n : Int)) = false := decide_eq_false (by omega)
  have HN := Lib.hid (And.intro h1 h2)
  have HL := Lib.hid hl
  have H64 := Lib.hid h64
  generalize List.replicate n z64 = S at *
  obtain ⟨cs, hcs⟩ : ∃ cs, (bc S.flatten).toArray = cs := ⟨_, rfl⟩
  rw [hcs] at hmk
  have HC := Lib.hid hcs
  clear hl h64 h1 h2 hcs
  go_enter Try.func6, Try.ntmps6
  go_wp2
  go_ret2
  refine ⟨_, _, rfl, ⟨?_, ?_, World.ownsRow_nil _ _ _ _, ?_, ?_, ?_, Nat.le_refl _, H64.out, fun c hc => by simp at hc, fun c hc => by simp at hc, by rw [HL.out]; exact HN.out.1, by rw [HL.out]; exact HN.out.2⟩, (bda _ _).trans ((bda _ _).mono (by simp)), ?_, Nat.le_refl _⟩
  · rw [HL.out]; exact heap_alloc2_new _ _ _
  · rw [HC.out]; exact heap_alloc2_old _ _ _
  · simp
  · simp; omega
  · simp
  · simp
end Go.Proofs.Ytmgdpchjimlmeaa
