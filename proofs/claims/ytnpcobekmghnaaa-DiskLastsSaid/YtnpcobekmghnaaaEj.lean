/-
  Crash by any cut; the law's fill.
-/
import Derived.Test.YtnpcobekmghnaaaEi
import Derived.Test.YtnpcobekmghnaaaEb
namespace Go.Proofs.Ytnpcobekmghnaaa
open Go.RowKit
set_option linter.unusedSimpArgs false
set_option linter.unusedVariables false
def cutV (c : Int) : Int := if c < 0 then -(c + 1) else c
def cutQ (c : Int) : Nat := (cutV c % 65).toNat
theorem cutV_nn (c : Int) : 0 ≤ cutV c := by unfold cutV; split <;> omega
theorem cutV_mod (c : Int) : (cutV c).tmod 65 = (cutQ c : Int) := by
  rw [Int.tmod_eq_emod_of_nonneg (cutV_nn c)]
  unfold cutQ
  have := cutV_nn c
  omega
theorem crash_any {B g gs : Nat} {v : Value} {S : List (List UInt8)} {C : List Wt} (K : Option Addr) (kc : Nat) (ks : List Int) (torn cut : Int) (w : World) (h : Dk B w g gs v S C) (hC : C.length ≤ 1000000) (hk : Rl nv w K kc ks) (hkn : ks.length ≤ 9223372036854775807) (hK : 0 < ks.length → ∀ b o, K = some ⟨b, o, none⟩ → b ≠ gs) (c0 : -9223372036854775808 ≤ cut) (c1 : cut ≤ 9223372036854775807) :
    Calls Try.prog 11 #[.pointer (some ⟨g, 0, none⟩), .slice K ks.length kc, .int .i64 torn, .int .i64 cut] w fun e w' => e = .returned (.tuple #[]) ∧ Dk B w' g gs (.slice none 0 0) (crash ks torn (cutQ cut) S C) [] ∧ Ch B g gs w w' := by
  have hq := cutV_mod cut
  by_cases hc : cut < 0
  · exact crash_n K kc ks torn cut w h hC hk hkn hK c0 c1 hc _ (by rw [← hq]; unfold cutV; rw [if_pos hc])
  · exact crash_p K kc ks torn cut w h hC hk hkn hK c0 c1 hc _ (by rw [← hq]; unfold cutV; rw [if_neg hc])
set_option maxRecDepth 100000 in
theorem make_bytes (n : Nat) (h2 : n ≤ 1024) (w : World) : (Instr.makeSlice 30 (.int .i64 (n : Int)) (.int .i64 (n : Int))).run Try.prog w = .ok (.slice (some ⟨w.heap.size, 0, none⟩) n n) (w.alloc (.cells (bc (List.replicate n 0)).toArray 5)) := by
  obtain ⟨i0, hi, hz0, hz1, hz2⟩ := info_parts (show (Try.prog.info? 5).map (fun i => (i.zero, i.size, i.bytes)) = some (some (.int .u8 0), 1, 1) by kernel_rfl)
  have := run_make (P := Try.prog) w 30 5 i0 _ Try.underlying30 hi hz0 .i64 .i64 (n : Int) (n : Int) (by omega) (by omega) (by rw [hz2]; omega) (by omega)
  simp only [Int.toNat_natCast, hz1, Nat.mul_one] at this
  rw [this, bc_zeros]
  rw [show (Value.int .u8 0).cells = (List.replicate 1 (Value.int .u8 0)).toArray from rfl, made_zeros _ _ (by omega)]
/-- A text's bytes, round about, to a sector's. -/
def fillTo (l : List UInt8) (k : Nat) : List UInt8 := (List.range 64).map fun j => if j < k then l.getD (j % l.length) 0 else 0
def fillB (l : List UInt8) : List UInt8 := if l = [] then z64 else fillTo l 64
theorem fillTo_len (l : List UInt8) (k : Nat) : (fillTo l k).length = 64 := by unfold fillTo; simp
theorem fillB_len (l : List UInt8) : (fillB l).length = 64 := by
  unfold fillB; split
  · exact z64_len
  · exact fillTo_len _ _
theorem fillTo_zero (l : List UInt8) : fillTo l 0 = z64 := by
  unfold fillTo z64
  apply List.ext_getElem
  · simp
  · intro i h1 h2
    rw [List.getElem_map, if_neg (Nat.not_lt_zero _), List.getElem_replicate]
theorem fillTo_set (l : List UInt8) (k : Nat) (hk : k < 64) : (bc (fillTo l k)).toArray.setIfInBounds k (.int .u8 ((l.getD (k % l.length) 0).toNat : Int)) = (bc (fillTo l (k + 1))).toArray := by
  apply Array.ext_getElem?
  intro i
  rw [Array.getElem?_setIfInBounds]
  unfold bc fillTo
  simp only [List.getElem?_toArray, List.getElem?_map, List.size_toArray, List.length_map, List.length_range]
  by_cases h : k = i
  · subst h
    rw [if_pos rfl, if_pos hk, List.getElem?_range hk]
    simp
  · rw [if_neg h]
    by_cases h2 : i < 64
    · rw [List.getElem?_range h2]
      simp only [Option.map_some]
      by_cases h3 : i < k
      · rw [if_pos h3, if_pos (by omega)]
      · rw [if_neg h3, if_neg (by omega)]
    · rw [List.getElem?_eq_none (by simp; omega)]; rfl

set_option maxHeartbeats 4000000 in
set_option maxRecDepth 100000 in
theorem fill_any (s : ByteArray) (w : World) :
    Calls Try.prog 8 #[.string s] w fun e w' => e = .returned (.string ⟨(fillB s.data.toList).toArray⟩) ∧ Below w.heap.size w w' := by
  have hmk := make_bytes 64 (by omega) w
  simp only [show ((64 : Nat) : Int) = 64 from rfl] at hmk
  rw [show List.replicate 64 (0 : UInt8) = z64 from rfl] at hmk
  obtain ⟨V, hV⟩ : ∃ V : World, V = w.alloc (.cells (bc z64).toArray 5) := ⟨_, rfl⟩
  rw [← hV] at hmk
  have hbV : Below w.heap.size w V := by rw [hV]; exact bda _ _
  have RB := Lib.hid (show V.heap[w.heap.size]? = some (.cells (bc z64).toArray 5 (0, 0)) by rw [hV]; exact heap_alloc_new _ _)
  have BV := Lib.hid hbV
  have es : s.size = s.data.toList.length := by simp
  by_cases h0 : s.size = 0
  · have cv := conv_bytes V w.heap.size 0 64 z64 64 z64_len (fun j u hj => by rw [Nat.zero_add]; exact row_c RB.out (by simpa using hj))
    have hs : s.data.toList = [] := List.eq_nil_of_length_eq_zero (by omega)
    have e1 : (⟨z64.toArray⟩ : ByteArray) = ⟨(fillB s.data.toList).toArray⟩ := by unfold fillB; rw [if_pos hs]
    rw [e1] at cv
    generalize (⟨(fillB s.data.toList).toArray⟩ : ByteArray) = R at *
    have z0 : decide (0 < s.size) = false := by simp [h0]
    have z1 : decide ((0 : Int) < (s.size : Int)) = false := by simp [h0]
    have z2 : s = ByteArray.empty := by
      apply ByteArray.ext; apply Array.toList_inj.1; rw [hs]; rfl
    clear hV hbV es h0 hs e1
    go_enter Try.func8, Try.ntmps8
    go_wp2_with fail
    go_loopw [4] (fun kv wr => kv = .int .i64 0 ∧ wr = V) (fun _ _ => 0)
    case atStart => exact ⟨rfl, rfl⟩
    case round =>
      obtain ⟨rfl, hwr⟩ := hrel
      subst wr
      go_wp2
      go_ret
      exact ⟨rfl, BV.out⟩
  · obtain ⟨n, hn⟩ : ∃ n, s.size = n := ⟨_, rfl⟩
    have HN := Lib.hid hn
    have HE := Lib.hid es
    have n0 : 0 < s.size := by omega
    have n1 : (0 : Int) < (s.size : Int) := by omega
    have n2 : ((s.size : Int) == 0) = false := by rw [beq_eq_false_iff_ne]; omega
    have n3 : ¬ (s.size : Int) = 0 := by omega
    have n4 : ¬ s = ByteArray.empty := fun e => by subst e; simp at n0
    have H0 := Lib.hid n0
    have hs : s.data.toList ≠ [] := fun e => by rw [e] at es; simp only [List.length_nil] at es; omega
    have e1 : (⟨(fillTo s.data.toList 64).toArray⟩ : ByteArray) = ⟨(fillB s.data.toList).toArray⟩ := by unfold fillB; rw [if_neg hs]
    have E1 := Lib.hid e1
    generalize (⟨(fillB s.data.toList).toArray⟩ : ByteArray) = R at *
    clear hV hbV es h0 hs e1 hn
    go_enter Try.func8, Try.ntmps8
    go_wp2_with fail
    go_loopw [4] (fun kv wr => ∃ k : Nat, k ≤ 64 ∧ kv = .int .i64 k ∧ Hid (wr.heap[w.heap.size]? = some (.cells (bc (fillTo s.data.toList k)).toArray 5 (0, 0))) ∧ Hid (Below w.heap.size w wr)) (fun kv _ => 64 - (intOf kv).toNat)
    case atStart => exact ⟨0, by omega, rfl, Lib.hid (by rw [fillTo_zero]; exact RB.out), BV⟩
    case round =>
      obtain ⟨k, hk, rfl, HR, HB⟩ := hrel
      by_cases hlt : k < 64
      · have hlt2 : (k : Int) < 64 := by omega
        obtain ⟨r, hr⟩ : ∃ r, k % s.size = r := ⟨_, rfl⟩
        have hr2 : r < s.size := by rw [← hr]; exact Nat.mod_lt _ n0
        have hm : (k : Int).tmod (s.size : Int) = (r : Int) := by rw [← hr]; exact (Int.ofNat_tmod k s.size).symm
        obtain ⟨D, hD⟩ : ∃ D, s.data.toList.getD (k % s.data.toList.length) 0 = D := ⟨_, rfl⟩
        have hg : (s[r]'hr2).toNat = D.toNat := by
          rw [← hD]
          congr 1
          have e : r = k % s.data.toList.length := by rw [← hr, HE.out]
          subst e
          rw [List.getD_eq_getElem?_getD, List.getElem?_eq_getElem (by rw [← HE.out]; exact hr2)]
          rfl
        have r0 : (0 : Int) ≤ (r : Int) := by omega
        have r1 : (r : Int) < (s.size : Int) := by omega
        have k0 : (0 : Int) ≤ (k : Int) := by omega
        have hset := fillTo_set s.data.toList k hlt
        rw [hD] at hset
        have HSET := Lib.hid hset
        have HLT := Lib.hid hlt
        have fz := frozen_of_row _ _ k _ _ HR.out
        have fc : wr.cell? ⟨w.heap.size, k, none⟩ = some (.int .u8 (((fillTo s.data.toList k).getD k 0).toNat : Int)) := row_c HR.out (by rw [List.getElem?_toArray, bc_at (by rw [fillTo_len]; exact hlt), List.getD_eq_getElem?_getD, List.getElem?_eq_getElem (by rw [fillTo_len]; exact hlt)]; rfl)
        obtain ⟨old, hold⟩ : ∃ o : Int, (((fillTo s.data.toList k).getD k 0).toNat : Int) = o := ⟨_, rfl⟩
        rw [hold] at fc
        clear hr hD hset hold hlt
        go_wp2
        go_roundw
        case rel => exact ⟨k + 1, by have := HLT.out; omega, by go_num, Lib.hid (by rw [← HSET.out]; exact heap_setCell_same _ _ k _ _ _ HR.out), Lib.hid (HB.out.setCell (p := ⟨w.heap.size, k, none⟩) (Nat.le_refl _) _)⟩
        case measure => simp [intOf]; have := HLT.out; omega
      · obtain rfl : k = 64 := by omega
        have cv := conv_bytes wr w.heap.size 0 64 (fillTo s.data.toList 64) 64 (fillTo_len _ _) (fun j u hj => by rw [Nat.zero_add]; exact row_c HR.out (by simpa using hj))
        rw [E1.out] at cv
        go_wp2
        go_ret
        exact ⟨rfl, HB.out⟩
end Go.Proofs.Ytnpcobekmghnaaa
