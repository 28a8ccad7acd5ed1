/-
  slices.Clone, pager's Fresh; maps.Copy at sets of pages.
-/
import Derived.Test.YtmgdpchjimlmeaaGe
import Derived.Test.YtmgdpchjimlmeaaGi
namespace Go.Proofs.Ytmgdpchjimlmeaa
open Go.RowKit
set_option linter.unusedSimpArgs false
set_option linter.unusedVariables false
set_option maxHeartbeats 4000000 in
set_option maxRecDepth 100000 in
theorem clone_any {L : Nat} {A : Option Addr} {c : Nat} {F : List Nat} (w : World) (hf : w.ownsRow L 3 1 (.slice A F.length c) F.length (F.map nn)) (hF : F.length ≤ 1000) :
    Calls Try.prog 52 #[.slice A F.length c] w fun e w' => ∃ v', e = .returned v' ∧ w'.ownsRow w.heap.size 3 1 v' F.length (F.map nn) ∧ Below w.heap.size w w' := by
  have q22 : ∀ (w : World) (a : Option Addr) (n c n' c' : Nat), (binOp .eql 63 (.slice a n c) (.slice none n' c')).run Try.prog w = .ok (.bool a.isNone) w := fun w a n c n' c' => Lib.run_eql_slice_nil w _ _ a n c n' c' Try.underlying63
  obtain ⟨i0, hi, hz0, hz1, hz2⟩ := info_parts (show (Try.prog.info? 3).map (fun i => (i.zero, i.size, i.bytes)) = some (some (.int .i64 0), 1, 8) by kernel_rfl)
  rcases hf.2 with ⟨h0, h1⟩ | ⟨b, cap, cur, h1, h2, h3, h4, h5, h6, h7⟩
  · injection h0 with a1 a2 a3
    subst a1 a3
    have HL := Lib.hid (List.eq_nil_of_length_eq_zero h1)
    rw [h1]
    clear hf hF h1 a2
    go_enter Try.func52, Try.ntmps52
    go_wp2
    go_ret
    exact ⟨_, rfl, by rw [HL.out]; exact World.ownsRow_nil _ _ _ _, Below.refl _ _⟩
  · injection h1 with a1 a2 a3
    subst a1 a3
    have HF := Lib.hid hf
    have HH := Lib.hid h3
    have FL := Lib.hid hF
    obtain ⟨N, hN⟩ : ∃ N, F.length = N := ⟨_, rfl⟩
    rw [hN] at FL
    have HN := Lib.hid hN
    rw [hN]
    clear hf h2 h3 h4 h5 h6 h7 hF a2 hN
    go_enter Try.func52, Try.ntmps52
    go_wp2_with (at_builtin; refine wpList_append_own _ rfl _ _ 63 rfl w.heap.size 3 i0 (.int .i64 0) 1 8 Try.underlying63 hi hz0 hz1 hz2 rfl (by decide) _ _ _ rfl (World.ownsRow_made w #[] 0 (Nat.le_refl _) (Nat.zero_le _) rfl) ⟨b, 0, none⟩ N c (F.map nn) rfl ?qc1 ?qc2 ?qc3 ?qc4 ?qc5 ?qc6 ?_)
    case qc1 => rw [List.length_map, HN.out]; omega
    case qc2 =>
      intro j u hj
      rw [Addr.add_lit, Nat.zero_add]
      have a1 := HF.out.cells (g := b) rfl j u hj
      rw [Addr.add_lit, Nat.zero_add] at a1
      exact Lib.cell?_alloc_some _ a1
    case qc3 => intro u hu; obtain ⟨x, _, rfl⟩ := List.mem_map.1 hu; rfl
    case qc4 => have := FL.out; unfold maxLen; omega
    case qc5 => have := FL.out; omega
    case qc6 => simp
    intro v' w1 hown hgrow hnil
    have H1 := Lib.hid hown
    have H2 := Lib.hid hgrow
    clear hown hgrow hnil
    go_wp2
    go_ret
    refine ⟨v', rfl, by simpa using H1.out, ?_⟩
    exact ((Below.refl _ w).alloc (Nat.le_refl _) _).grown H2.out (by simp) (by intro k hk; simp [Value.ownBlock] at hk; omega)
set_option maxHeartbeats 4000000 in
set_option maxRecDepth 100000 in
theorem fresh_any {L p g : Nat} {f m0 : Value} {T R : Int} {F : List Nat} (w : World) (hp : Pb w p T R m0 g f) (hf : w.ownsRow L 3 1 f F.length (F.map nn)) (hF : F.length ≤ 1000) :
    Calls Try.prog 40 #[.pointer (some ⟨p, 0, none⟩)] w fun e w' => ∃ v', e = .returned v' ∧ w'.ownsRow w.heap.size 3 1 v' F.length (F.map nn) ∧ Below w.heap.size w w' := by
  obtain ⟨A, c, rfl, hRl, hFr⟩ := rl_of_own hf
  have CL := Lib.hid (clone_any w hf hF)
  have c4 := row_c (i := 4) hp rfl
  clear hp hf hRl hFr hF
  go_enter Try.func40, Try.ntmps40
  go_wp2_with fail
  refine CL.out.mono ?_
  rintro e w1 ⟨v', rfl, ho, hb⟩
  have H := Lib.hid (And.intro ho hb)
  clear ho hb
  go_wp2
  go_ret
  exact ⟨v', rfl, H.out.1, H.out.2⟩
set_option maxHeartbeats 4000000 in
set_option maxRecDepth 100000 in
theorem copy_any {bd bs nd ns : Nat} {Ud Uz : Nat → Bool} (w : World) (hd : Us w bd nd Ud) (hs : Us w bs ns Uz) (hne : bd ≠ bs) (hn : nd + ns ≤ 1000000) :
    Calls Try.prog 25 #[.map (some bd), .map (some bs)] w fun e w' => e = .returned (.tuple #[]) ∧ Us w' bd (nd + ns) (fun i => Ud i || Uz i) ∧ w.grownBy w' (some bd) := by
  obtain ⟨D, hown, hD⟩ := hs
  have HD := Lib.hid hD
  have HS := Lib.hid hown.size_le
  have LD := Lib.hid hd.lt
  have LS := Lib.hid hown.lt
  have HU := Lib.hid hd
  clear hD hd
  go_enter Try.func25, Try.ntmps25
  go_wp2_with (first | (at_range; refine wpList_range_own _ rfl _ 60 rfl 3 75 iK Try.underlying60 (unitElem (H := Unit)) bs ns D rfl hown ?_; intro w0 hrg0 hg0 hs0) | go_in)
  go_frame
  have U0 := Lib.hid (HU.out.kept hg0 (by simp))
  have G0 := Lib.hid (hg0.but (some bd))
  clear hg0 hs0 hown
  go_loopw [8] (fun _ wr => ∃ (left : Lit → Bool) (cnt : Nat), wr.ranges Try.prog 3 (unitElem (H := Unit)) bs w.heap.size ns D left cnt ∧ cnt ≤ Maps.size D ∧ Hid (Us wr bd (nd + (Maps.size D - cnt)) (fun i => Ud i || (Uz i && !left (.int .i64 (i : Int))))) ∧ Hid (w.grownBy wr (some bd))) (fun _ wr => wr.rangeLeft bs w.heap.size)
  case atStart =>
    refine ⟨_, _, hrg0, Nat.le_refl _, Lib.hid ((U0.out.mono (by omega)).ext (fun i hi => ?_)), G0⟩
    rw [HD.out, inU_nat, decide_eq_true hi]; cases Ud i <;> cases Uz i <;> rfl
  case round =>
    obtain ⟨left, cnt, hrg, hcs, hu, hg⟩ := hrel
    go_wp2_with (first | (at_next; refine wpList_next_ranges _ rfl _ rfl 3 iK (unitElem (H := Unit)) (Value.int .i64) (fun _ : Unit => Value.agg #[]) intInv unitInv bs w.heap.size ns _ _ _ rfl hrg ?_ ?_) | go_in)
    · intro hc0 hl0
      have UU := Lib.hid ((hu.out.mono (n' := nd + ns) (by have := HS.out; omega)).ext (V := fun i => Ud i || Uz i) (fun i _ => by rw [hl0]; simp))
      clear hc0 hl0 hu hrg
      go_wp2
      go_end0
      exact ⟨rfl, UU.out, hg.out⟩
    · intro x c kl y w1 cnt1 hkey hlx hv hat hrg1 hlt hg1 hs1 hen
      obtain ⟨x', ex, rfl, hwx⟩ := Maps.keyOf_int_inv Try.underlying3 hkey
      injection ex with _ ex
      subst ex
      have hin : inU Uz (.int .i64 x) = true := by rw [← HD.out]; exact has_of_at hat
      obtain ⟨n, en, hn5, hUn⟩ := inU_true hin
      injection en with _ en
      subst en
      have hu1 : Us w1 bd (nd + (Maps.size D - cnt)) (fun i => Ud i || (Uz i && !left (.int .i64 (i : Int)))) := hu.out.kept hg1 (fun e => by have := LD.out; have := Option.some.inj e; omega)
      obtain ⟨Do, hout, hDo⟩ := hu1
      have HDo := Lib.hid hDo
      have hout2 := hout.alloc (.cells #[] 75)
      have G1 := Lib.hid (show w.grownBy (w1.alloc (.cells #[] 75)) (some bd) from (hg.out.andThen hg1 (fun j hj => .inl (by cases hj; exact Nat.le_refl _))).andThen (World.grownBy_alloc w1 _ none) (fun j hj => by cases hj))
      have RG1 := Lib.hid (hrg1.kept (World.grownBy_alloc w1 (.cells #[] 75) none) (by simp) (by simp))
      have hkey2 := Maps.keyOf_int_mk Try.underlying3 hwx
      have HX := Lib.hid (And.intro hat (And.intro hn5 (And.intro hUn (And.intro hlt (And.intro hlx hs1)))))
      have HCS := Lib.hid hcs
      have HRG := Lib.hid hrg
      have hml : nd + (Maps.size D - cnt) < maxLen := by have := HS.out; unfold maxLen; omega
      clear hDo hkey hlx hat hin hg1 hu hcs hrg hout hrg1 hlt hn5 hUn hv hs1
      go_wp2_with (first | (at_mapUpdate; refine wpList_mapUpdate_own _ rfl _ _ _ 60 rfl 3 75 iK Try.underlying60 (unitElem (H := Unit)) bd _ Do rfl hout2 hml _ _ _ rfl rfl hkey2 _ [] unitElem_mk ?_; intro w2 hout3 hg2; go_frame) | go_in)
      have hrg2 := RG1.out.kept hg2 (fun e => hne (Option.some.inj e).symm) (fun e => by have := LD.out; have := Option.some.inj e; omega)
      have U2 := Us.ins HX.out.2.1 hout2 HDo.out hout3
      refine ⟨⟨_, cnt1, hrg2, by have := HX.out.2.2.2.1; have := HCS.out; omega, Lib.hid ((U2.mono (by have := HX.out.2.2.2.1; have := HCS.out; omega)).ext (fun i _ => ?_)), Lib.hid (grown_trans G1.out hg2)⟩, ?_⟩
      · rw [left_step HX.out.2.2.1, Bool.or_assoc]
      · rw [hrg2.left_eq, HRG.out.left_eq]; exact HX.out.2.2.2.1
end Go.Proofs.Ytmgdpchjimlmeaa
