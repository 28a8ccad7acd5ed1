/-
  astrolabelaw18.PageBurst: a page in which a stretch of at most 32 bits is turned is none; nor is one of whose sum a bit is turned.
-/
import Derived.Test.YtcomfcmimnjhoaaPi
import Derived.Test.YtcomfcmimnjhoaaPlSeals
import Derived.Laws.ShiftsVarLaws
import Derived.Deep.DeepCutAuto
import Derived.Deep.LoopGhost
namespace Go.Proofs.Ytcomfcmimnjhoaa
open Go.RowKit
/-- What the burst has made of the page so far. -/
def Bst (s : List UInt8) (a i : Nat) (l : List UInt8) : Prop := l.length = 128 ∧ l.drop 124 = s.drop 124 ∧ (i = 0 → l = s) ∧ (0 < i → a < 992) ∧ ∃ m, m < 2 ^ i ∧ (0 < i → m % 2 = 1) ∧ (i = 0 → m = 0) ∧ num (l.take 124) = num (s.take 124) ^^^ m * 2 ^ a
theorem Bst.start {s : List UInt8} (h : s.length = 128) (a : Nat) : Bst s a 0 s := ⟨h, rfl, fun _ => rfl, by simp, 0, by simp, by simp, fun _ => rfl, by simp⟩
theorem Bst.turn {s l : List UInt8} {a i : Nat} (h : Bst s a i l) (hi : a + i < 992) : Bst s a (i + 1) (flip l (a + i)) := by
  obtain ⟨h1, h2, h3, h5, m, m1, m2, m3, m4⟩ := h
  refine ⟨by rw [flip_len, h1], by rw [flip_drop _ _ _ (by omega), h2], fun h => by omega, fun _ => by omega, m + 2 ^ i, ?_, fun _ => ?_, fun h => by omega, ?_⟩
  · exact (step_num _ m1 m4).2
  · rcases Nat.eq_zero_or_pos i with h0 | h0
    · subst h0; rw [m3 rfl]
    · have := m2 h0
      obtain ⟨q, rfl⟩ : ∃ q, i = q + 1 := ⟨i - 1, by omega⟩
      rw [Nat.pow_succ]
      omega
  · rw [flip_take _ _ _ (by omega), num_flip _ _ (by simp; omega)]
    exact (step_num _ m1 m4).1
theorem Bst.stay {s l : List UInt8} {a i : Nat} (h : Bst s a i l) (h0 : 0 < i) : Bst s a (i + 1) l := by
  obtain ⟨h1, h2, h3, h5, m, m1, m2, m3, m4⟩ := h
  exact ⟨h1, h2, fun h => by omega, fun _ => h5 h0, m, by rw [Nat.pow_succ]; omega, fun _ => m2 h0, fun h => by omega, m4⟩
theorem Bst.bad {s l : List UInt8} {a i : Nat} (h : Bst s a i l) (hs : s.length = 128) (hq : sumT (s.take 124) = s.drop 124) (ha : a < 992) (h0 : 0 < i) (hi : i ≤ 32) : sumT (l.take 124) ≠ l.drop 124 := by
  obtain ⟨h1, h2, h3, h5, m, m1, m2, m3, m4⟩ := h
  have := m2 h0
  have hp : 2 ^ i ≤ 4294967296 := Nat.pow_le_pow_right (n := 2) (by omega) hi
  exact bad_body hs hq h1 ha (by omega) (by omega) h2 m4
theorem xor_shl (x r : Nat) (hx : x < 256) (hr : r < 8) : bits .xor .u8 (x : Int) (IntKind.u8.wrap (2 ^ r)) = ((x ^^^ 2 ^ r : Nat) : Int) := by
  have hb : 2 ^ r < 256 := Nat.pow_lt_pow_right (n := 8) (by omega) hr
  have e : ((2 : Int) ^ r) = ((2 ^ r : Nat) : Int) := by simp
  rw [IntKind.wrap_u8', e]
  generalize 2 ^ r = Y at *
  rw [Int.emod_eq_of_lt (by omega) (by omega), u8_xor_nat _ _ hx hb]
theorem below_drew {B : Nat} {a w : World} (h : Below B a w) : Below B a w.drew := ⟨h.os, h.tape, h.output, h.size, h.block⟩
set_option maxHeartbeats 8000000 in
set_option maxRecDepth 100000 in
theorem burst_yes (k : Nat) (t : List UInt8) (at_ by_ : Int) (w : World) (h1 : 1 ≤ k) (h9 : k ≤ 9) (hl : t.length ≤ 120) (ha : -9223372036854775808 ≤ at_) (ha' : at_ ≤ 9223372036854775807) :
    Calls Try.prog 5 #[.int .i64 k, .string ⟨t.toArray⟩, .int .i64 at_, .int .i64 by_] w fun e w' => e = .returned (.bool true) ∧ Below w.heap.size w w' := by
  have SY := Lib.hid (fun W => seal_yes k t W h1 h9 hl)
  have sl := seal_len (k := k) hl
  have sq := Lib.hid (show sumT ((sealL k t).take 124) = (sealL k t).drop 124 by rw [seal_take hl, seal_drop hl])
  obtain ⟨s, hs⟩ : ∃ s, sealL k t = s := ⟨_, rfl⟩
  rw [hs] at SY sl sq
  clear hs
  have dl2 : ((s.length : Int) != 128) = false := by simp; omega
  have l0 : s.length ≤ 128 := by omega
  have SL := Lib.hid sl
  clear sl
  have CB := Lib.hid (fun W => bytes_of W s)
  go_enter Try.func5, Try.ntmps5
  go_wp2_with fail
  refine (examples_any _).mono ?_
  rintro e w1 ⟨rfl, hb1⟩
  have K1 := Lib.hid hb1
  clear hb1
  go_wp2_with fail
  refine (SY.out _).mono ?_
  rintro e w2 ⟨rfl, hb2⟩
  have K2 := Lib.hid (K1.out.trans (hb2.mono K1.out.size))
  clear hb2
  go_upto_if 33 with fail
  go_cut [2] (fun s1 wx => (∃ z : Int, 0 ≤ z ∧ z ≤ 9223372036854775807 ∧ s1 = .int .i64 z) ∧ w2 = wx)
  case first =>
    by_cases h : at_ < 0
    · have d0 : decide (at_ < 0) = true := by simp [h]
      go_wp2_with fail
      go_meet
      exact ⟨⟨_, by omega, by omega, rfl⟩, rfl⟩
    · have d0 : decide (at_ < 0) = false := by simp; omega
      go_wp2_with fail
      go_meet
      exact ⟨⟨_, by omega, by omega, rfl⟩, rfl⟩
  obtain ⟨⟨z, hz0, hz1, rfl⟩, rfl⟩ := hcut
  obtain ⟨a, ea, la⟩ : ∃ a : Nat, z % 1024 = (a : Int) ∧ a < 1024 := ⟨(z % 1024).toNat, by omega, by omega⟩
  obtain ⟨cap, w3, hcv, hcap, hbk, hbl⟩ := CB.out w2
  have K3 := Lib.hid (K2.out.trans (hbl.mono K2.out.size))
  have BK := Lib.hid hbk
  have G := Lib.hid K2.out.size
  obtain ⟨g, hg⟩ : ∃ g, w2.heap.size = g := ⟨_, rfl⟩
  rw [hg] at hcv BK G
  clear hbk hbl hg
  go_wp2_with fail
  rw [ea]
  clear ea hcv
  go_loopw [13] (fun v wr => ∃ i : Nat, i ≤ 32 ∧ v = .int .i64 i ∧ ∃ l : List UInt8, Hid (Bst s a i l) ∧ Hid (Bk wr g l) ∧ Hid (Below w.heap.size w wr)) (fun v _ => 32 - (intOf v).toNat)
  case atStart => exact ⟨0, by omega, rfl, s, Lib.hid (Bst.start SL.out a), BK, K3⟩
  case round =>
    obtain ⟨i, hi, rfl, l, hbs, hbk, hbl⟩ := hrel
    have lenl : l.length = 128 := hbs.out.1
    have LL := Lib.hid lenl
    clear lenl
    by_cases hlt : i < 32 ∧ a + i < 992
    · obtain ⟨hi32, hai⟩ := hlt
      have d1 : decide ((i : Int) < 32) = true := by simp; omega
      have d2 : decide ((a : Int) + (i : Int) < 992) = true := by simp; omega
      obtain ⟨J, hJ⟩ : ∃ J : Nat, a + i = J := ⟨_, rfl⟩
      have c0 := Lib.hid (hbk.out.2 (J / 8) (by rw [LL.out]; omega)).1
      have c1 := Lib.hid (hbk.out.2 (J / 8) (by rw [LL.out]; omega)).2
      obtain ⟨q, hq⟩ : ∃ q : Nat, J / 8 = q := ⟨_, rfl⟩
      obtain ⟨r, hr⟩ : ∃ r : Nat, J % 8 = r := ⟨_, rfl⟩
      have W1 := Lib.hid (show IntKind.i64.wrap ((a : Int) + (i : Int)) = (J : Int) by rw [IntWalk.i64_in _ (by omega)]; omega)
      have W2 := Lib.hid (show (J : Int) / 8 = (q : Int) by omega)
      have W3 := Lib.hid (show (J : Int) % 8 = (r : Int) by omega)
      have W4 := Lib.hid (show Int.tdiv (J : Int) 8 = (q : Int) by rw [Int.tdiv_eq_ediv_of_nonneg (by omega)]; omega)
      have W5 := Lib.hid (show Int.tmod (J : Int) 8 = (r : Int) by rw [Int.tmod_eq_emod_of_nonneg (by omega)]; omega)
      have W6 := Lib.hid (show IntKind.i64.wrap (q : Int) = (q : Int) from IntWalk.i64_in _ (by omega))
      have W7 := Lib.hid (show IntKind.i64.wrap (r : Int) = (r : Int) from IntWalk.i64_in _ (by omega))
      have HJ := Lib.hid (And.intro hJ (And.intro hq hr))
      rw [hq] at c0 c1
      have lr : r < 8 := by omega
      have sl2 := SL.out
      have lq : q < s.length := by omega
      have lq0 : (0 : Int) ≤ (q : Int) := by omega
      have lq1 : (q : Int) < (s.length : Int) := by omega
      clear sl2 hJ hq hr
      have W8 := Lib.hid (xor_shl (at8 l q) r (at8_lt _ _) lr)
      have NEW := Lib.hid (show ∃ l' : List UInt8, Hid (Bst s a (i + 1) l') ∧ Hid (Bk ((wr.setCell ⟨g, q, none⟩ (.int .u8 ((at8 l q ^^^ 2 ^ r : Nat) : Int))).drew) g l') ∧ Hid (Below w.heap.size w ((wr.setCell ⟨g, q, none⟩ (.int .u8 ((at8 l q ^^^ 2 ^ r : Nat) : Int))).drew)) by
        obtain ⟨j1, j2, j3⟩ := HJ.out
        subst j1
        subst j2
        subst j3
        refine ⟨flip l (a + i), Lib.hid (hbs.out.turn (by omega)), Lib.hid (show Bk (wr.setCell _ _) g _ from Bk.turn (w := wr) hbk.out (by rw [LL.out]; omega)), Lib.hid (below_drew (hbl.out.setCell G.out _))⟩)
      by_cases h0 : i = 0
      · have d3 : ((i : Int) == 0) = true := by simp; omega
        have H0 := Lib.hid h0
        clear h0
        go_wp2_with fail
        have w1' := W1.out
        have w2' := W2.out
        have w3' := W3.out
        have w4' := W4.out
        have w5' := W5.out
        have w6' := W6.out
        have w7' := W7.out
        have f0 := c0.out
        have f1 := c1.out
        have hxr := W8.out
        refine wp_region_still_tail 19 (by kernel_rfl) (by kernel_rfl) ?_
        simp only [List.take_succ_cons, List.take_zero, List.drop_succ_cons, List.drop_zero]
        repeat still_step
        refine wpStill_nil ?_
        change wpList _ _ _ _ _ wr.drew
        go_wp2
        go_roundw
        case rel => exact ⟨i + 1, by omega, by go_num, NEW.out⟩
        case measure => simp [intOf]; omega
      · have d3 : ((i : Int) == 0) = false := by simp; omega
        have H0 := Lib.hid h0
        clear h0
        have STAY := Lib.hid (hbs.out.stay (by have := H0.out; omega))
        go_wp2_with fail
        ·
          have w1' := W1.out
          have w2' := W2.out
          have w3' := W3.out
          have w4' := W4.out
          have w5' := W5.out
          have w6' := W6.out
          have w7' := W7.out
          have f0 := c0.out
          have f1 := c1.out
          have hxr := W8.out
          refine wp_region_still_tail 19 (by kernel_rfl) (by kernel_rfl) ?_
          simp only [List.take_succ_cons, List.take_zero, List.drop_succ_cons, List.drop_zero]
          repeat still_step
          refine wpStill_nil ?_
          change wpList _ _ _ _ _ wr.drew
          go_wp2
          go_roundw
          case rel => exact ⟨i + 1, by omega, by go_num, NEW.out⟩
          case measure => simp [intOf]; omega
        · go_roundw
          case rel => exact ⟨i + 1, by omega, by go_num, l, STAY, hbk, hbl⟩
          case measure => simp [intOf]; omega
    · have hx : i = 32 ∨ i < 32 ∧ 992 ≤ a + i := by omega
      by_cases ha9 : a < 992
      · have e9 : decide ((992 : Int) ≤ (a : Int)) = false := by simp; omega
        have e9' : decide (992 ≤ a) = false := by simp; omega
        have hcb := conv_bk (cap := cap) hbk.out
        have BAD := Lib.hid (hbs.out.bad SL.out sq.out ha9 (by omega) hi)
        have OP := Lib.hid (fun W => open_sum l W LL.out BAD.out)
        have ESL := Lib.hid (LL.out.trans SL.out.symm)
        rw [ESL.out] at hcb
        rcases hx with hx | ⟨hx1, hx2⟩
        · have d1 : decide ((i : Int) < 32) = false := by simp; omega
          clear hx hlt ha9
          go_wp2_with fail
          refine (OP.out _).mono ?_
          rintro e w4 ⟨rfl, hb4⟩
          have K4 := Lib.hid (hbl.out.trans (hb4.mono hbl.out.size))
          clear hb4
          go_wp2
          go_ret
          exact ⟨rfl, K4.out⟩
        · have d1 : decide ((i : Int) < 32) = true := by simp; omega
          have d2 : decide ((a : Int) + (i : Int) < 992) = false := by simp; omega
          clear hlt ha9
          go_wp2_with fail
          refine (OP.out _).mono ?_
          rintro e w4 ⟨rfl, hb4⟩
          have K4 := Lib.hid (hbl.out.trans (hb4.mono hbl.out.size))
          clear hb4
          go_wp2
          go_ret
          exact ⟨rfl, K4.out⟩
      · have hi0 : i = 0 := by
          rcases Nat.eq_zero_or_pos i with h | h
          · exact h
          · exact absurd (hbs.out.2.2.2.1 h) ha9
        have hls : l = s := hbs.out.2.2.1 hi0
        have e9 : decide ((992 : Int) ≤ (a : Int)) = true := by simp; omega
        have e9' : decide (992 ≤ a) = true := by simp; omega
        have d1 : decide ((i : Int) < 32) = true := by simp; omega
        have d2 : decide ((a : Int) + (i : Int) < 992) = false := by simp; omega
        have BAD := Lib.hid (bad_sum (j := a) SL.out sq.out (by omega) la)
        have OP := Lib.hid (fun W => open_sum (flip s a) W (by rw [flip_len]; exact SL.out) BAD.out)
        rw [hls] at hbk
        have T := Lib.hid (Bk.turn (k := a) hbk.out (by rw [SL.out]; omega))
        obtain ⟨q, hq⟩ : ∃ q : Nat, a / 8 = q := ⟨_, rfl⟩
        obtain ⟨r, hr⟩ : ∃ r : Nat, a % 8 = r := ⟨_, rfl⟩
        have c0 := Lib.hid (hbk.out.2 (a / 8) (by rw [SL.out]; omega)).1
        have c1 := Lib.hid (hbk.out.2 (a / 8) (by rw [SL.out]; omega)).2
        rw [hq] at c0 c1 T
        rw [hr] at T
        have w2' : (a : Int) / 8 = (q : Int) := by omega
        have w3' : (a : Int) % 8 = (r : Int) := by omega
        have w4' : Int.tdiv (a : Int) 8 = (q : Int) := by rw [Int.tdiv_eq_ediv_of_nonneg (by omega)]; omega
        have w5' : Int.tmod (a : Int) 8 = (r : Int) := by rw [Int.tmod_eq_emod_of_nonneg (by omega)]; omega
        have w6' : IntKind.i64.wrap (q : Int) = (q : Int) := IntWalk.i64_in _ (by omega)
        have w7' : IntKind.i64.wrap (r : Int) = (r : Int) := IntWalk.i64_in _ (by omega)
        have lr : r < 8 := by omega
        have sl2 := SL.out
        have lq : q < s.length := by omega
        have lq0 : (0 : Int) ≤ (q : Int) := by omega
        have lq1 : (q : Int) < (s.length : Int) := by omega
        have hxr := xor_shl (at8 s q) r (at8_lt _ _) lr
        have KS := Lib.hid (below_drew (hbl.out.setCell (p := ⟨g, q, none⟩) G.out (.int .u8 ((at8 s q ^^^ 2 ^ r : Nat) : Int))))
        have hcb := conv_bk (cap := cap) (w := (wr.setCell ⟨g, q, none⟩ (.int .u8 ((at8 s q ^^^ 2 ^ r : Nat) : Int))).drew) T.out
        rw [flip_len] at hcb
        have f0 := c0.out
        have f1 := c1.out
        clear sl2 hq hr hi0 hls ha9 hx hlt LL
        go_wp2_with fail
        refine wp_region_still_tail 13 (by kernel_rfl) (by kernel_rfl) ?_
        simp only [List.take_succ_cons, List.take_zero, List.drop_succ_cons, List.drop_zero]
        repeat still_step
        refine wpStill_nil ?_
        change wpList _ _ _ _ _ wr.drew
        go_wp2_with fail
        refine (OP.out _).mono ?_
        rintro e w4 ⟨rfl, hb4⟩
        have K4 := Lib.hid (KS.out.trans (hb4.mono KS.out.size))
        clear hb4
        go_wp2
        go_ret
        exact ⟨rfl, K4.out⟩
theorem seal_no_any (k : Int) (t : List UInt8) (at_ by_ : Int) (w : World) (hn : sealOk k t.length = false) (hl : t.length ≤ 9223372036854775807) :
    Calls Try.prog 5 #[.int .i64 k, .string ⟨t.toArray⟩, .int .i64 at_, .int .i64 by_] w fun e w' => e = .returned (.bool true) ∧ Below w.heap.size w w' := by
  have SN := Lib.hid (fun W => seal_no k t W hn hl)
  clear hn
  go_enter Try.func5, Try.ntmps5
  go_wp2_with fail
  refine (examples_any _).mono ?_
  rintro e w1 ⟨rfl, hb1⟩
  have K1 := Lib.hid hb1
  clear hb1
  go_wp2_with fail
  refine (SN.out _).mono ?_
  rintro e w2 ⟨rfl, rfl⟩
  go_wp2
  go_ret
  exact ⟨rfl, K1.out⟩
theorem i64_lo {a : Int} (g : (Lit.int .i64 a).wf = true) : -9223372036854775808 ≤ a := by
  simp only [Lit.wf, Bool.and_eq_true, decide_eq_true_eq] at g; exact g.1
theorem i64_hi {a : Int} (g : (Lit.int .i64 a).wf = true) : a ≤ 9223372036854775807 := by
  simp only [Lit.wf, Bool.and_eq_true, decide_eq_true_eq] at g; exact g.2
theorem pburst_any (k : Int) (t : ByteArray) (at_ by_ : Int) (w : World) (hl : t.size ≤ 9223372036854775807) (g2 : (Lit.int .i64 at_).wf = true) :
    Calls Try.prog 5 #[.int .i64 k, .string t, .int .i64 at_, .int .i64 by_] w fun e w' => e = .returned (.bool true) ∧ Below w.heap.size w w' := by
  rw [← Lib.mk_data t]
  rw [← Lib.mk_data t, str_size] at hl
  cases h : sealOk k t.data.toList.length
  · exact seal_no_any k _ at_ by_ w h hl
  · obtain ⟨K, rfl, h1, h9, h0⟩ := okP _ _ h
    exact burst_yes K _ at_ by_ w h1 h9 h0 (i64_lo g2) (i64_hi g2)
end Go.Proofs.Ytcomfcmimnjhoaa
