/-
  The document's Same of two equal lists.
-/
import Derived.Test.YtlfjopjfolbmiaaCv
namespace Go.Proofs.Ytlfjopjfolbmiaa
open Go.RowKit
set_option maxHeartbeats 4000000 in
set_option maxRecDepth 100000 in
theorem same_any (next : Int) (A B : Option Addr) (c d : Nat) (vs : List (Int × Int)) (w : World) (h : Vs w A c vs) (h2 : Vs w B d vs) (hl : vs.length ≤ 100000) :
    Calls Try.prog 27 #[.agg #[.int .i64 next, .slice A vs.length c], .agg #[.int .i64 next, .slice B vs.length d]] w fun e w' => e = .returned (.bool true) ∧ Below w.heap.size w w' := by
  have d0 : (next != next) = false := by simp
  have d1 : (vs.length != vs.length) = false := by simp
  have d2 : ((vs.length : Int) != (vs.length : Int)) = false := by simp
  have H := Lib.hid h
  have H2 := Lib.hid h2
  clear h h2
  go_enter Try.func27, Try.ntmps27
  go_wp2_with fail
  obtain ⟨W, hW⟩ : ∃ W : World, W = (w.alloc (.cells #[.int .i64 next, .slice A vs.length c] 34)).alloc (.cells #[.int .i64 next, .slice B vs.length d] 34) := ⟨_, rfl⟩
  have r2 := heap_alloc_new (w.alloc (.cells #[.int .i64 next, .slice A vs.length c] 34)) (.cells #[.int .i64 next, .slice B vs.length d] 34)
  have r1 := row_on (heap_alloc_new w (.cells #[.int .i64 next, .slice A vs.length c] 34)) (bda _ (.cells #[.int .i64 next, .slice B vs.length d] 34))
  simp only [World.size_alloc] at r2
  rw [← hW] at r1 r2 ⊢
  have B1 := Lib.hid (show Below w.heap.size w W by rw [hW]; exact bon (bda _ _) (bda _ _))
  have R1 := Lib.hid r1
  have R2 := Lib.hid r2
  clear hW r1 r2
  go_loopw [5] (fun i wr => ∃ k : Nat, k ≤ vs.length ∧ i = .int .i64 k ∧ Hid (Below W.heap.size W wr)) (fun i _ => vs.length - (intOf i).toNat)
  case atStart => exact ⟨0, Nat.zero_le _, rfl, Lib.hid (Below.refl _ _)⟩
  case round =>
    obtain ⟨k, hk, rfl, hb⟩ := hrel
    have KW := Lib.hid (show Below w.heap.size w wr from B1.out.trans (hb.out.mono B1.out.size))
    have f1 := row_c (row_on R1.out hb.out) (i := 1) rfl
    have g1 := row_c (row_on R2.out hb.out) (i := 1) rfl
    by_cases hlt : k < vs.length
    · obtain ⟨b, off, hA, hbl, hcell⟩ := (H.out.below KW.out).2 (by omega)
      obtain ⟨b2, off2, hA2, hbl2, hcell2⟩ := (H2.out.below KW.out).2 (by omega)
      obtain ⟨f2, f3⟩ := hcell k hlt
      obtain ⟨g2, g3⟩ := hcell2 k hlt
      have HLT := Lib.hid hlt
      clear hcell hcell2 hbl hbl2
      generalize at2 vs k = v at *
      obtain ⟨a, q⟩ := v
      simp only at f2 f3 g2 g3
      have k0 : (0 : Int) ≤ (k : Int) := by omega
      have k1 : (k : Int) < (vs.length : Int) := by omega
      subst hA hA2
      go_upto_region 6 with (fail)
      go_quiet (fail)
      go_wp2
      go_roundw
      case rel => exact ⟨k + 1, HLT.out, by go_num, Lib.hid (below_drewN hb.out _)⟩
      case measure => simp [intOf]; have := HLT.out; omega
    · obtain rfl : k = vs.length := by omega
      go_wp2
      go_ret
      exact ⟨rfl, KW.out⟩
end Go.Proofs.Ytlfjopjfolbmiaa
