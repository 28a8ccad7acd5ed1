/-
  slices.Clone, pager's Fresh; maps.Copy at sets of pages.
-/
import Derived.Test.YtnpopbobpbbamaaGe
import Derived.Test.YtnpopbobpbbamaaGi
namespace Go.Proofs.Ytnpopbobpbbamaa
open Go.RowKit
set_option linter.unusedSimpArgs false
set_option linter.unusedVariables false
set_option maxHeartbeats 4000000 in
set_option maxRecDepth 100000 in
theorem copy_any {bd bs nd ns : Nat} {Ud Uz : Nat → Bool} (w : World) (hd : Us w bd nd Ud) (hs : Us w bs ns Uz) (hne : bd ≠ bs) (hn : nd + ns ≤ 1000000) :
    Calls Try.prog 27 #[.map (some bd), .map (some bs)] w fun e w' => e = .returned (.tuple #[]) ∧ Us w' bd (nd + ns) (fun i => Ud i || Uz i) ∧ w.grownBy w' (some bd) := by
  obtain ⟨D, hown, hD⟩ := hs
  have HD := Lib.hid hD
  have HS := Lib.hid hown.size_le
  have LD := Lib.hid hd.lt
  have LS := Lib.hid hown.lt
  have HU := Lib.hid hd
  clear hD hd
  go_enter Try.func27, Try.ntmps27
  go_wp2_with (first | (at_range; refine wpList_range_own _ rfl _ 43 rfl 3 64 iK Try.underlying43 (unitElem (H := Unit)) bs ns D rfl hown ?_; intro w0 hrg0 hg0 hs0) | go_in)
  go_frame
  have U0 := Lib.hid (HU.out.kept hg0 (by simp))
  have G0 := Lib.hid (hg0.but (some bd))
  clear hg0 hs0 hown
  go_loopw [8] (fun _ wr => ∃ (left : Lit → Bool) (cnt : Nat), wr.ranges Try.prog 3 (unitElem (H := Unit)) bs w.heap.size ns D left cnt ∧ cnt ≤ Maps.size D ∧ Hid (Us wr bd (nd + (Maps.size D - cnt)) (fun i => Ud i || (Uz i && !left (.int .i64 (i : Int))))) ∧ Hid (w.grownBy wr (some bd))) (fun _ wr => wr.rangeLeft bs w.heap.size)
  case atStart =>
    refine ⟨_, _, hrg0, Nat.le_refl _, Lib.hid ((U0.out.mono (by omega)).ext (fun i hi => ?_)), G0⟩
    rw [HD.out, inU_nat, decide_eq_true hi]; cases Ud i <;> cases Uz i <;> rfl
  case round =>
    obtain ⟨left, cnt, hrg, hcs, hu, hg⟩ := hrel
    go_wp2_with (first | (at_next; refine wpList_next_ranges _ rfl _ rfl 3 iK (unitElem (H := Unit)) (Value.int .i64) (fun _ : Unit => Value.agg #[]) intInv unitInv bs w.heap.size ns _ _ _ rfl hrg ?_ ?_) | go_in)
    · intro hc0 hl0
      have UU := Lib.hid ((hu.out.mono (n' := nd + ns) (by have := HS.out; omega)).ext (V := fun i => Ud i || Uz i) (fun i _ => by rw [hl0]; simp))
      clear hc0 hl0 hu hrg
      go_wp2
      go_end0
      exact ⟨rfl, UU.out, hg.out⟩
    · intro x c kl y w1 cnt1 hkey hlx hv hat hrg1 hlt hg1 hs1 hen
      obtain ⟨x', ex, rfl, hwx⟩ := Maps.keyOf_int_inv Try.underlying3 hkey
      injection ex with _ ex
      subst ex
      have hin : inU Uz (.int .i64 x) = true := by rw [← HD.out]; exact has_of_at hat
      obtain ⟨n, en, hn5, hUn⟩ := inU_true hin
      injection en with _ en
      subst en
      have hu1 : Us w1 bd (nd + (Maps.size D - cnt)) (fun i => Ud i || (Uz i && !left (.int .i64 (i : Int)))) := hu.out.kept hg1 (fun e => by have := LD.out; have := Option.some.inj e; omega)
      obtain ⟨Do, hout, hDo⟩ := hu1
      have HDo := Lib.hid hDo
      have hout2 := hout.alloc (.cells #[] 64)
      have G1 := Lib.hid (show w.grownBy (w1.alloc (.cells #[] 64)) (some bd) from (hg.out.andThen hg1 (fun j hj => .inl (by cases hj; exact Nat.le_refl _))).andThen (World.grownBy_alloc w1 _ none) (fun j hj => by cases hj))
      have RG1 := Lib.hid (hrg1.kept (World.grownBy_alloc w1 (.cells #[] 64) none) (by simp) (by simp))
      have hkey2 := Maps.keyOf_int_mk Try.underlying3 hwx
      have HX := Lib.hid (And.intro hat (And.intro hn5 (And.intro hUn (And.intro hlt (And.intro hlx hs1)))))
      have HCS := Lib.hid hcs
      have HRG := Lib.hid hrg
      have hml : nd + (Maps.size D - cnt) < maxLen := by have := HS.out; unfold maxLen; omega
      clear hDo hkey hlx hat hin hg1 hu hcs hrg hout hrg1 hlt hn5 hUn hv hs1
      go_wp2_with (first | (at_mapUpdate; refine wpList_mapUpdate_own _ rfl _ _ _ 43 rfl 3 64 iK Try.underlying43 (unitElem (H := Unit)) bd _ Do rfl hout2 hml _ _ _ rfl rfl hkey2 _ [] unitElem_mk ?_; intro w2 hout3 hg2; go_frame) | go_in)
      have hrg2 := RG1.out.kept hg2 (fun e => hne (Option.some.inj e).symm) (fun e => by have := LD.out; have := Option.some.inj e; omega)
      have U2 := Us.ins HX.out.2.1 hout2 HDo.out hout3
      refine ⟨⟨_, cnt1, hrg2, by have := HX.out.2.2.2.1; have := HCS.out; omega, Lib.hid ((U2.mono (by have := HX.out.2.2.2.1; have := HCS.out; omega)).ext (fun i _ => ?_)), Lib.hid (grown_trans G1.out hg2)⟩, ?_⟩
      · rw [left_step HX.out.2.2.1, Bool.or_assoc]
      · rw [hrg2.left_eq, HRG.out.left_eq]; exact HX.out.2.2.2.1
end Go.Proofs.Ytnpopbobpbbamaa
