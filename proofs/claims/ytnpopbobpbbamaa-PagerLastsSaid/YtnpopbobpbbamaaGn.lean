/-
  pager's fits; Open.
-/
import Derived.Test.YtnpopbobpbbamaaGm
namespace Go.Proofs.Ytnpopbobpbbamaa
open Go.RowKit
set_option linter.unusedSimpArgs false
set_option linter.unusedVariables false
/-- May a head stand in page n of so many? -/
structure Fits (T R : Nat) (U : Nat → Bool) (n M : Nat) : Prop where
  t1 : 1 ≤ T
  t2 : T < 281474976710656
  tn : T % 2 = n
  r2 : R < 65536
  root : rootB U (R : Int) = true
  u0 : U 0 = true
  u1 : U 1 = true
  um : ∀ i, i < 512 → U i = true → i < M
set_option maxHeartbeats 8000000 in
set_option maxRecDepth 100000 in
theorem fits_yes {b bm k0 T R n M : Nat} {U : Nat → Bool} (w : World) (hu : Us w bm k0 U) (hb : b < w.heap.size) (h0 : w.cell? ⟨b, 0, none⟩ = some (.int .i64 (T : Int))) (h1 : w.cell? ⟨b, 1, none⟩ = some (.int .i64 (R : Int))) (h2 : w.cell? ⟨b, 2, none⟩ = some (.map (some bm))) (hf : Fits T R U n M) (hM : M ≤ 512) :
    Calls Try.prog 36 #[.pointer (some ⟨b, 0, none⟩), .int .i64 (n : Int), .int .i64 (M : Int)] w fun e w' => e = .returned (.bool true) ∧ Below w.heap.size w w' := by
  obtain ⟨D, hown, hD⟩ := hu
  have HD := Lib.hid hD
  have HU := Lib.hid (show Us w bm k0 U from ⟨D, hown, hD⟩)
  have HF := Lib.hid hf
  have HBB := Lib.hid hb
  have H0 := Lib.hid h0
  have H1 := Lib.hid h1
  have H2 := Lib.hid h2
  have LB := Lib.hid hown.lt
  clear hD hf hb h0 h1
  go_enter Try.func36, Try.ntmps36
  go_wp2_with (first | (at_range; refine wpList_range_own _ rfl _ 43 rfl 3 64 iK Try.underlying43 (unitElem (H := Unit)) bm k0 D rfl hown ?_; intro w0 hrg0 hg0 hs0) | go_in)
  go_frame
  have B0 := Lib.hid (show Below w.heap.size w w0 from ⟨hg0.os, hg0.tape, hg0.output, hg0.size, fun i hi => hg0.block i hi (by simp)⟩)
  clear hg0 hs0 hown h2
  go_loopw [13] (fun _ wr => ∃ (left : Lit → Bool) (cnt : Nat), wr.ranges Try.prog 3 (unitElem (H := Unit)) bm w.heap.size k0 D left cnt ∧ Hid (Below w.heap.size w wr)) (fun _ wr => wr.rangeLeft bm w.heap.size)
  case atStart => exact ⟨_, _, hrg0, B0⟩
  case round =>
    obtain ⟨left, cnt, hrg, hbl⟩ := hrel
    go_wp2_with (first | (at_next; refine wpList_next_ranges _ rfl _ rfl 3 iK (unitElem (H := Unit)) (Value.int .i64) (fun _ : Unit => Value.agg #[]) intInv unitInv bm w.heap.size k0 _ _ _ rfl hrg ?_ ?_) | go_in)
    · intro hc0 hl0
      have c0 := (hbl.out.cell (p := ⟨b, 0, none⟩) HBB.out).trans H0.out
      have PL := Lib.hid (place_any (b := b) T wr c0)
      have tn := HF.out.tn
      rw [tn] at PL
      have RT := Lib.hid (rooted_any (b := b) (R : Int) true wr (HU.out.below hbl.out) ((hbl.out.cell (p := ⟨b, 1, none⟩) HBB.out).trans H1.out) ((hbl.out.cell (p := ⟨b, 2, none⟩) HBB.out).trans H2.out) (WalkArith.wf_i64 (by have := HF.out.r2; omega)) HF.out.root)
      have U0 := Lib.hid (fun (X : World) (hX : Below w.heap.size w X) => show Calls Try.prog 22 #[.pointer (some ⟨b, 0, none⟩), .int .i64 0] X fun e w' => e = .returned (.bool true) ∧ Below X.heap.size X w' from uses_any (b := b) 0 true X (HU.out.below hX) ((hX.cell (p := ⟨b, 2, none⟩) HBB.out).trans H2.out) (wf_nat (i := 0) (by omega)) (by have := taken_inU (U := U) (k := 0) (by omega); rw [HF.out.u0] at this; exact this))
      have U1 := Lib.hid (fun (X : World) (hX : Below w.heap.size w X) => show Calls Try.prog 22 #[.pointer (some ⟨b, 0, none⟩), .int .i64 1] X fun e w' => e = .returned (.bool true) ∧ Below X.heap.size X w' from uses_any (b := b) 1 true X (HU.out.below hX) ((hX.cell (p := ⟨b, 2, none⟩) HBB.out).trans H2.out) (wf_nat (i := 1) (by omega)) (by have := taken_inU (U := U) (k := 1) (by omega); rw [HF.out.u1] at this; exact this))
      have t1 := HF.out.t1
      have tz : ((T : Int) != 0) = true := by simp; omega
      have te : ((T : Int) == 0) = false := by simp; omega
      have tq : ¬ ((T : Int) = 0) := by omega
      clear hc0 hl0 hrg tn t1
      go_wp2_with fail
      refine PL.out.mono ?_
      rintro e w1 ⟨rfl, hw⟩
      obtain rfl : wr = w1 := hw.symm
      clear hw c0
      go_wp2_with fail
      refine RT.out.mono ?_
      rintro e w2 ⟨rfl, hb2⟩
      have B2 := Lib.hid (bon hbl.out hb2)
      clear hb2
      go_wp2_with fail
      refine (U0.out _ B2.out).mono ?_
      rintro e w3 ⟨rfl, hb3⟩
      have B3 := Lib.hid (bon B2.out hb3)
      clear hb3
      go_wp2_with fail
      refine (U1.out _ B3.out).mono ?_
      rintro e w4 ⟨rfl, hb4⟩
      have B4 := Lib.hid (bon B3.out hb4)
      clear hb4
      go_wp2
      go_ret
      exact ⟨rfl, B4.out⟩
    · intro x c kl y w1 cnt1 hkey hlx hv hat hrg1 hlt hg1 hs1 hen
      obtain ⟨x', ex, rfl, hwx⟩ := Maps.keyOf_int_inv Try.underlying3 hkey
      injection ex with _ ex
      subst ex
      have hin : inU U (.int .i64 x) = true := by rw [← HD.out]; exact has_of_at hat
      obtain ⟨i, en, hi5, hUi⟩ := inU_true hin
      injection en with _ en
      subst en
      have hiM := HF.out.um i hi5 hUi
      have d1 : decide ((M : Int) ≤ (i : Int)) = false := decide_eq_false (by omega)
      have d2 : decide (M ≤ i) = false := decide_eq_false (by omega)
      have HB1 := Lib.hid (show Below w.heap.size w w1 from hbl.out.trans ⟨hg1.os, hg1.tape, hg1.output, hg1.size, fun i hi => hg1.block i (Nat.lt_of_lt_of_le hi hbl.out.size) (by simp; omega)⟩)
      have HL := Lib.hid (And.intro hrg (And.intro hlt hrg1))
      clear hkey hlx hat hin hg1 hi5 hUi hiM hv hs1 hrg hlt hrg1 hwx
      go_wp2_with fail
      first
      | (refine ⟨⟨_, cnt1, HL.out.2.2, HB1⟩, ?_⟩; rw [HL.out.2.2.left_eq, HL.out.1.left_eq]; exact HL.out.2.1)
      | (go_roundw; case rel => exact ⟨_, cnt1, HL.out.2.2, HB1⟩; case measure => rw [HL.out.2.2.left_eq, HL.out.1.left_eq]; exact HL.out.2.1)
end Go.Proofs.Ytnpopbobpbbamaa
