/-
  PagerKeeps.
-/
import Derived.Test.YtkklekkanogphaaHlHands
namespace Go.Proofs.Ytkklekkanogphaa
open Go.RowKit
set_option linter.unusedSimpArgs false
set_option linter.unusedVariables false
/-- How many of the first numbers are in a set. -/
def cnt (U : Nat → Bool) (n : Nat) : Nat := ((List.range n).filter U).length
theorem cnt_succ (U : Nat → Bool) (n : Nat) : cnt U (n + 1) = cnt U n + (U n).toNat := by
  unfold cnt
  rw [List.range_succ, List.filter_append, List.length_append]
  cases h : U n <;> simp [h]
theorem cnt_le (U : Nat → Bool) (n : Nat) : cnt U n ≤ n := by
  induction n with
  | zero => exact Nat.le_refl _
  | succ n ih => rw [cnt_succ]; cases U n <;> simp <;> omega
theorem cnt_all {U : Nat → Bool} {n : Nat} (h : ∀ i, i < n → U i = true) : cnt U n = n := by
  induction n with
  | zero => rfl
  | succ n ih => rw [cnt_succ, ih (fun i hi => h i (by omega)), h n (by omega)]; rfl
theorem cnt_ext {U V : Nat → Bool} {n : Nat} (h : ∀ i, i < n → U i = V i) : cnt U n = cnt V n := by
  induction n with
  | zero => rfl
  | succ n ih => rw [cnt_succ, cnt_succ, ih (fun i hi => h i (by omega)), h n (by omega)]
theorem cnt_ins {U : Nat → Bool} {x n : Nat} (hx : U x = false) (h : x < n) : cnt (fun i => U i || i == x) n = cnt U n + 1 := by
  induction n with
  | zero => omega
  | succ n ih =>
    rw [cnt_succ, cnt_succ]
    by_cases e : x = n
    · subst e
      rw [cnt_ext (V := U) (fun i hi => by rw [show (i == x) = false by rw [beq_eq_false_iff_ne]; omega, Bool.or_false]), hx]
      simp
    · rw [ih (by omega), show (n == x) = false by rw [beq_eq_false_iff_ne]; omega, Bool.or_false]; omega
theorem cnt_far {U : Nat → Bool} {m : Nat} (h : ∀ i, m ≤ i → U i = false) (d : Nat) : cnt U (m + d) = cnt U m := by
  induction d with
  | zero => rfl
  | succ d ih => rw [← Nat.add_assoc, cnt_succ, ih, h _ (by omega)]; rfl
/-- The pages told by the bits of a number. -/
def lb (b : Nat → Bool) (k : Nat) : List Nat := ((List.range k).filter b).map (· + 2)
theorem lb_len (b : Nat → Bool) (k : Nat) : (lb b k).length = cnt b k := by unfold lb cnt; rw [List.length_map]
theorem lb_yes {b : Nat → Bool} {k : Nat} (h : b k = true) : lb b k ++ [k + 2] = lb b (k + 1) := by
  unfold lb
  rw [List.range_succ, List.filter_append, List.map_append]
  simp [h]
theorem lb_no {b : Nat → Bool} {k : Nat} (h : b k = false) : lb b (k + 1) = lb b k := by
  unfold lb
  rw [List.range_succ, List.filter_append, List.map_append]
  simp [h]
theorem lb_mem (b : Nat → Bool) (k i : Nat) : (lb b k).contains i = (decide (2 ≤ i) && (decide (i < k + 2) && b (i - 2))) := by
  unfold lb
  rw [Bool.eq_iff_iff, List.contains_iff_mem, List.mem_map]
  simp only [Bool.and_eq_true, decide_eq_true_eq, List.mem_filter, List.mem_range]
  constructor
  · rintro ⟨a, ⟨h1, h2⟩, rfl⟩
    exact ⟨by omega, by omega, by rw [Nat.add_sub_cancel]; exact h2⟩
  · rintro ⟨h1, h2, h3⟩
    exact ⟨i - 2, ⟨by omega, h3⟩, by omega⟩
theorem lb_lt {b : Nat → Bool} {x : Nat} (h : x ∈ lb b 10) : 2 ≤ x ∧ x < 12 := by
  have h2 := lb_mem b 10 x
  rw [List.contains_iff_mem.2 h] at h2
  simp at h2
  exact ⟨h2.1, by omega⟩
theorem cnt_nU (b : Nat → Bool) (m : Nat) (hm : m ≤ 10) : cnt (nU (lb b 10)) (m + 2) = 2 + cnt b m := by
  have hU : ∀ i, nU (lb b 10) i = (decide (i < 2) || (decide (2 ≤ i) && (decide (i < 12) && b (i - 2)))) := fun i => by unfold nU; rw [lb_mem]
  induction m with
  | zero =>
    rw [cnt_succ, cnt_succ, hU, hU]
    rfl
  | succ m ih =>
    rw [cnt_succ, show m + 2 = m + 2 from rfl]
    have e : cnt (nU (lb b 10)) (m + 1 + 1) = cnt (nU (lb b 10)) (m + 2) := rfl
    rw [e, ih (by omega), cnt_succ b, hU]
    have h1 : decide (m + 1 + 1 < 2) = false := decide_eq_false (by omega)
    have h2 : decide (2 ≤ m + 1 + 1) = true := decide_eq_true (by omega)
    have h3 : decide (m + 1 + 1 < 12) = true := decide_eq_true (by omega)
    rw [h1, h2, h3, show m + 1 + 1 - 2 = m by omega]
    simp; omega
theorem used_lb (b : Nat → Bool) : (usedL (nU (lb b 10))).length = (lb b 10).length + 2 := by
  have h : cnt (nU (lb b 10)) (12 + 500) = cnt (nU (lb b 10)) 12 := cnt_far (fun i hi => by
    unfold nU
    rw [lb_mem, decide_eq_false (by omega : ¬ i < 2), decide_eq_false (by omega : ¬ i < 10 + 2)]; simp) 500
  show cnt (nU (lb b 10)) 512 = _
  rw [show 512 = 12 + 500 from rfl, h, cnt_nU b 10 (Nat.le_refl _), lb_len]; omega
theorem used_nil : (usedL (nU [])).length = 2 := usedL_lt (by omega) (fun i => by unfold nU; simp)
theorem taken_nil (U : Nat → Bool) (i : Nat) : taken U [] i = U i := by unfold taken; simp
theorem taken_add (U : Nat → Bool) (F : List Nat) (x i : Nat) : taken U (F ++ [x]) i = (taken U F i || i == x) := by
  unfold taken
  rw [List.contains_append, Bool.or_assoc]
  congr 2
  rw [Bool.eq_iff_iff, beq_iff_eq, List.contains_iff_mem, List.mem_singleton]
theorem bad_one (U : Nat → Bool) (P : List Nat) : badB U (P ++ [1]) = true := by unfold badB; rw [List.any_append]; simp
theorem bad_lb {U : Nat → Bool} {b : Nat → Bool} (h : ∀ i, i < 12 → U i = true) : badB U (lb b 10) = false := by
  unfold badB
  rw [List.any_eq_false]
  intro x hx
  have := lb_lt hx
  rw [h x this.2]
  simp; omega
theorem bad_nil {b : Nat → Bool} (h : 0 < (lb b 10).length) : badB (nU []) (lb b 10) = true := by
  unfold badB
  rw [List.any_eq_true]
  obtain ⟨x, hx⟩ := List.exists_mem_of_length_pos h
  refine ⟨x, hx, ?_⟩
  have := lb_lt hx
  unfold nU
  simp
theorem meas_up1 {n k : Nat} (h : k < n) : n - (intOf (.int .i64 ((k : Int) + 1))).toNat < n - (intOf (.int .i64 (k : Int))).toNat := by
  show n - ((k : Int) + 1).toNat < n - ((k : Int)).toNat
  omega
theorem root0 (U : Nat → Bool) : rootB U 0 = true := rfl
theorem root_nil {R : Int} (h : rootB (nU []) R = true) : R = 0 := by
  unfold rootB at h
  rcases Int.lt_or_le R 2 with h2 | h2
  · rw [decide_eq_false (by omega : ¬ 2 ≤ R)] at h
    simpa using h
  · rcases Bool.or_eq_true_iff.1 h with h1 | h1
    · simpa using h1
    · rw [Bool.and_eq_true] at h1
      obtain ⟨i, e, _, hU⟩ := inU_true h1.2
      injection e with _ e
      unfold nU at hU
      simp at hU
      omega
set_option maxHeartbeats 16000000 in
set_option maxRecDepth 100000 in
theorem pagerKeeps_any (bits odd : Int) (w : World) (n0 : -9223372036854775808 ≤ bits) (n1 : bits ≤ 9223372036854775807) (m0 : -9223372036854775808 ≤ odd) (m1 : odd ≤ 9223372036854775807) :
    Calls Try.prog 4 #[.int .i64 bits, .int .i64 odd] w fun e w' => e = .returned (.bool true) ∧ Below w.heap.size w w' := by
  have WO := Lib.hid (show (Lit.int .i64 odd).wf = true from WalkArith.wf_i64 (by omega))
  have NW := Lib.hid (fun X => show Calls Try.prog 6 #[.int .i64 24] X fun e w' => ∃ g gs, e = .returned (.tuple #[.pointer (some ⟨g, 0, none⟩), .int .i64 0]) ∧ Dk w'.heap.size w' g gs (.slice none 0 0) (List.replicate 24 z64) [] ∧ Below X.heap.size X w' ∧ X.heap.size ≤ g ∧ X.heap.size ≤ gs from new_any 24 (by omega) (by omega) X)
  obtain ⟨b, hb⟩ : ∃ b : Nat → Bool, (fun k => (Int.tmod (bits / 2 ^ k) 2) != 0) = b := ⟨_, rfl⟩
  have HB := Lib.hid (fun k => show ((Int.tmod (bits / 2 ^ k) 2) != 0) = b k by rw [← hb])
  clear n0 n1 m0 m1 hb
  go_enter Try.func4, Try.ntmps4
  go_wp2_with fail
  refine (examples_any w).mono ?_
  rintro e w1 ⟨rfl, hb⟩
  have B1 := Lib.hid hb
  clear hb
  go_wp2_with fail
  refine (NW.out w1).mono ?_
  rintro e w2 ⟨g, gs, rfl, hd, hb, hg, hgs⟩
  have B2 := Lib.hid (bon B1.out hb)
  have HGG := Lib.hid (And.intro (Nat.le_trans B1.out.size hg) (Nat.le_trans B1.out.size hgs))
  have BS2 := Lib.hid B2.out.size
  obtain ⟨S0, hS0⟩ : ∃ S0, List.replicate 24 z64 = S0 := ⟨_, rfl⟩
  have SL0 := Lib.hid (show S0.length = 24 by rw [← hS0]; exact List.length_replicate)
  rw [hS0] at hd
  have FY := Lib.hid (format_yes w2 hd (by have := SL0.out; omega) (by simp))
  clear hd hb hg hgs hS0 NW
  go_wp2_with fail
  refine FY.out.mono ?_
  rintro e w3 ⟨p, bm, rfl, hp, hpb, hu, hd, hc⟩
  obtain ⟨S1, hS1⟩ : ∃ S1, flush S0 ([] ++ hdW 1 0 (nU [])) = S1 := ⟨_, rfl⟩
  have SL := Lib.hid (show S1.length = 24 by rw [← hS1, flush_len, SL0.out])
  rw [hS1] at hd
  have B3 := Lib.hid (hc.below B2.out BS2.out HGG.out.1 HGG.out.2)
  have P3 := Lib.hid hpb
  have PP := Lib.hid (Nat.le_trans B2.out.size hp)
  have U3 := Lib.hid hu
  have D3 := Lib.hid hd
  obtain ⟨B, hB⟩ : ∃ B, w2.heap.size = B := ⟨_, rfl⟩
  rw [hB] at D3 BS2
  obtain ⟨L, hL⟩ : ∃ L, w3.heap.size = L := ⟨_, rfl⟩
  have HL := Lib.hid (show w.heap.size ≤ L ∧ w3.heap.size = L from ⟨by rw [← hL]; exact B3.out.size, hL⟩)
  clear hS1 hp hpb hu hd hc FY hB hL
  go_wp2_with fail
  go_loopw [10] (fun kv wr => ∃ (k : Nat) (f v : Value) (C : List Wt), k ≤ 10 ∧ kv = .int .i64 (k : Int) ∧ Hid (Pb wr p 1 0 (.map (some bm)) g f) ∧ Hid (Us wr bm 2 (nU [])) ∧ Hid (wr.ownsRow L 3 1 f (fr2 k).length ((fr2 k).map nn)) ∧ Hid (Dk B wr g gs v S1 C) ∧ Hid (C.length = 2 * k) ∧ Hid (Below w.heap.size w wr) ∧ Hid (L ≤ wr.heap.size)) (fun kv _ => 10 - (intOf kv).toNat)
  case atStart => exact ⟨0, .slice none 0 0, .slice none 0 0, [], by omega, rfl, P3, U3, Lib.hid (World.ownsRow_nil _ _ _ _), D3, Lib.hid rfl, B3, Lib.hid (by rw [HL.out.2]; exact Nat.le_refl _)⟩
  case round =>
    obtain ⟨k, f, v, C, hk, rfl, hp, hu, ho, hd, hC, hbl, hl⟩ := hrel
    by_cases hk2 : k < 10
    · have AL := Lib.hid (alloc_any 12 wr hp.out hu.out ho.out hl.out hd.out (by rw [SL.out]) (by rw [fr2_len]; omega))
      have d1 : decide ((k : Int) < 10) = true := decide_eq_true (by omega)
      have KL := Lib.hid hk2
      have kw := Lib.hid (wup (k := k) (by omega))
      clear hk2 hk
      go_wp2_with fail
      refine AL.out.mono ?_
      intro e w4 hA
      have hA2 : ∃ f', e = .returned (.tuple #[.int .i64 ((k + 2 : Nat) : Int), .int .i64 0]) ∧ Pb w4 p 1 0 (.map (some bm)) g f' ∧ Us w4 bm 2 (nU []) ∧ w4.ownsRow L 3 1 f' (fr2 (k + 1)).length ((fr2 (k + 1)).map nn) ∧ Dk B w4 g gs v S1 C ∧ Ca p f f' wr w4 := by
        rcases hA with ⟨x, f', hx, h1, h2, he, k1, k2, k3, k4, k5⟩ | ⟨h1, _⟩
        · obtain rfl := taken_at h1 h2
          rw [fr2_snoc, fr2_len] at k3
          exact ⟨f', he, k1, k2, by rw [fr2_len]; exact k3, k4, k5⟩
        · have := h1 (k + 2) (by have := KL.out; omega)
          rw [taken_fr2] at this
          simp at this
      obtain ⟨x, hx⟩ : ∃ x, k + 2 = x := ⟨_, rfl⟩
      rw [hx] at hA2
      obtain ⟨f', rfl, hp4, hu4, ho4, hd4, hc4⟩ := hA2
      have B4 := Lib.hid (hc4.below (N := w.heap.size) hbl.out hbl.out.size PP.out (fun j hj => Nat.le_trans HL.out.1 (ho.out.lt j hj).1))
      have L4 := Lib.hid (Nat.le_trans hl.out hc4.size)
      have WR := Lib.hid (show Calls Try.prog 13 #[.pointer (some ⟨p, 0, none⟩), .int .i64 (x : Int), .int .i64 2, .string ⟨#[120]⟩] w4 fun e w' => e = .returned (.int .i64 0) ∧ Pb w' p 1 0 (.map (some bm)) g f' ∧ Us w' bm 2 (nU []) ∧ w'.ownsRow L 3 1 f' (fr2 (k + 1)).length ((fr2 (k + 1)).map nn) ∧ (∃ v', Dk B w' g gs v' S1 ((C ++ [(2 * x, (sealL 2 [120]).take 64)]) ++ [(2 * x + 1, (sealL 2 [120]).drop 64)])) ∧ Ch B g gs w4 w' from write_yes x 2 ⟨#[120]⟩ w4 hp4 hu4 ho4 hd4 (by rw [fr2_mem, ← hx]; simp) (by rw [fr2_len]; have := KL.out; omega) (by rw [SL.out]; have := KL.out; omega) (by omega) (by omega) (by decide) (by rw [hC.out]; have := KL.out; omega))
      clear hA hp4 hu4 ho4 hd4 hc4 AL hx
      go_wp2_with fail
      refine WR.out.mono ?_
      rintro e w5 ⟨rfl, hp5, hu5, ho5, ⟨v5, hd5⟩, hc5⟩
      have B5 := Lib.hid (hc5.below B4.out BS2.out HGG.out.1 HGG.out.2)
      have P5 := Lib.hid hp5
      have U5 := Lib.hid hu5
      have O5 := Lib.hid ho5
      have D5 := Lib.hid hd5
      have L5 := Lib.hid (Nat.le_trans L4.out hc5.size)
      clear hp5 hu5 ho5 hd5 hc5 WR
      go_wp2_with fail
      exact ⟨⟨k + 1, f', v5, _, KL.out, by rw [kw.out]; rfl, P5, U5, O5, D5, Lib.hid (by rw [List.length_append, List.length_append, hC.out]; simp; omega), B5, L5⟩, meas_up KL.out kw.out⟩
    · obtain rfl : k = 10 := by omega
      rw [show (((10 : Nat) : Int)) = (10 : Int) from rfl]
      have KS := Lib.hid (keep_state (R := 0) none 0 0 wr hp.out ho.out (by rw [fr2_len]; omega) (by rw [fr2_len]; omega))
      have CM := Lib.hid (show Calls Try.prog 11 #[.pointer (some ⟨p, 0, none⟩), .int .i64 0] wr fun e w' => ∃ b2, e = .returned (.int .i64 0) ∧ Pb w' p 2 0 (.map (some b2)) g (.slice none 0 0) ∧ Us w' b2 (2 + (fr2 10).length + 2) (fun i => nU (fr2 10) i || nU [] i) ∧ Dk B w' g gs (.slice none 0 0) (flush (flush S1 C) (hdW 2 0 (fun i => nU (fr2 10) i || nU [] i))) [] ∧ Cp B p g gs wr w' from commit_yes 1 0 wr hp.out hu.out ho.out hd.out (by rw [SL.out]; omega) (by rw [hC.out]; omega) (by rw [fr2_len]; omega) (fr2_lt (by omega)) (by omega) (by omega) (by omega) (root0 _))
      clear hk2 hk
      go_wp2_with fail
      refine KS.out.mono ?_
      rintro e w4 ⟨rfl, hw⟩
      obtain rfl : wr = w4 := hw.symm
      clear hw KS
      go_wp2_with fail
      refine CM.out.mono ?_
      rintro e w5 ⟨b2, rfl, hp5, hu5, hd5, hc5⟩
      obtain ⟨S2, hS2⟩ : ∃ S2, flush (flush S1 C) (hdW 2 0 (fun i => nU (fr2 10) i || nU [] i)) = S2 := ⟨_, rfl⟩
      have SL2 := Lib.hid (show S2.length = 24 by rw [← hS2, flush_len, flush_len, SL.out])
      rw [hS2] at hd5
      have B5 := Lib.hid (hc5.below hbl.out BS2.out PP.out HGG.out.1 HGG.out.2)
      have P5 := Lib.hid hp5
      have U5 := Lib.hid (show Us w5 b2 14 (fun i => decide (i < 12)) by rw [fr2_len] at hu5; exact hu5.ext (fun i _ => nU_fr2 10 i))
      have D5 := Lib.hid hd5
      clear hS2 hp5 hu5 hd5 hc5 CM hp hu ho hd hC hbl hl U3 P3 D3
      go_wp2_with fail
      go_loopw [15, 16] (fun xv kv w6 => ∃ (k : Nat), k ≤ 10 ∧ kv = .int .i64 (k : Int) ∧ Hid (w6.ownsRow w5.heap.size 3 1 xv (lb b k).length ((lb b k).map nn)) ∧ Hid (Below w5.heap.size w5 w6)) (fun _ kv _ => 10 - (intOf kv).toNat)
      case atStart => exact ⟨0, by omega, rfl, Lib.hid (World.ownsRow_nil _ _ _ _), Lib.hid (Below.refl _ _)⟩
      case round =>
        obtain ⟨k, hk, rfl, ho, hb6⟩ := hrel
        by_cases hk2 : k < 10
        · obtain ⟨x, hx⟩ : ∃ x : Int, Int.tmod (bits / 2 ^ k) 2 = x := ⟨_, rfl⟩
          have HX := HB.out k
          rw [hx] at HX
          have d1 : decide ((k : Int) < 10) = true := decide_eq_true (by omega)
          have km : min k 64 = k := by omega
          have KL := Lib.hid hk2
          have kw := Lib.hid (wup (k := k) (by omega))
          obtain ⟨x2, hx2⟩ : ∃ x2, k + 2 = x2 := ⟨_, rfl⟩
          have kw2 := Lib.hid (show wrap64 ((k : Int) + 2) = (x2 : Int) by rw [IntWalk.wrap64_in _ ⟨by omega, by omega⟩]; omega)
          have LN := Lib.hid (show (lb b k).length + 1 ≤ 11 by rw [lb_len]; have := cnt_le b k; omega)
          have HX2 := Lib.hid hx2
          obtain ⟨q, hq⟩ : ∃ q, b k = q := ⟨_, rfl⟩
          rw [hq] at HX
          have HQ := Lib.hid hq
          clear hk2 hk hq hx2
          cases q
          · have e0 : x = 0 := by simpa using HX
            subst e0
            have O7 := Lib.hid (show wr.ownsRow w5.heap.size 3 1 u15 (lb b (k + 1)).length ((lb b (k + 1)).map nn) by rw [lb_no HQ.out]; exact ho.out)
            clear HX
            go_wp2_with fail
            exact ⟨⟨k + 1, KL.out, rfl, O7, hb6⟩, meas_up1 KL.out⟩
          · have e0 : ¬ x = 0 := by simpa using HX
            have bz : w5.heap.size ≤ wr.heap.size := hb6.out.size
            obtain ⟨i0, hi, hz0, hz1, hz2⟩ := info_parts (show (Try.prog.info? 3).map (fun i => (i.zero, i.size, i.bytes)) = some (some (.int .i64 0), 1, 8) by kernel_rfl)
            go_wp2_with (at_builtin; refine wpList_append_lies _ rfl _ _ 33 rfl w5.heap.size 3 i0 (.int .i64 0) 1 8 Try.underlying33 hi hz0 hz1 hz2 rfl (by decide) _ _ _ rfl (ho.out.alloc _) ⟨wr.heap.size, 0, none⟩ 1 1 [.int .i64 ((k : Int) + 2)] rfl rfl (fun j u hj => one_newG hj) (by intro u hu; simp at hu; subst hu; rfl) (by have := LN.out; omega) (by unfold maxLen; have := LN.out; omega) (by have := LN.out; omega) (by simp; omega) (wr.heap.size + 1) (by simp) ?_)
            intro g1 cap w7 hown7 hgrow7 hat hgl1
            have O7 := Lib.hid (show w7.ownsRow w5.heap.size 3 1 (.slice (some ⟨g1, 0, none⟩) ((lb b k).length + 1) cap) (lb b (k + 1)).length ((lb b (k + 1)).map nn) by
              have h := hown7
              rw [show (k : Int) + 2 = (x2 : Int) by have := HX2.out; omega] at h
              rw [← lb_yes HQ.out, List.length_append, List.map_append, HX2.out]
              exact h)
            have B7 := Lib.hid (show Below w5.heap.size w5 w7 from (hb6.out.alloc bz _).grown hgrow7 (by simp; omega) (fun j hj => (ho.out.lt j hj).1))
            clear hown7 hgrow7 hat hgl1 hi hz0 hz1 hz2
            go_wp2_with fail
            exact ⟨⟨k + 1, KL.out, rfl, O7, B7⟩, meas_up1 KL.out⟩
        · obtain rfl : k = 10 := by omega
          rw [show (((10 : Nat) : Int)) = (10 : Int) from rfl]
          obtain ⟨A, c, rfl, hRl, hFr⟩ := rl_of_own ho.out
          obtain ⟨N, hN⟩ : ∃ N, (lb b 10).length = N := ⟨_, rfl⟩
          have HN := Lib.hid hN
          have N10 := Lib.hid (show N ≤ 10 by rw [← hN, lb_len]; exact cnt_le b 10)
          have RL := Lib.hid hRl
          have O6 := ho
          have B6 := Lib.hid (B5.out.trans (hb6.out.mono B5.out.size))
          have P6 := Lib.hid (show Pb wr p 2 0 (.map (some b2)) g (.slice none 0 0) from row_on P5.out hb6.out)
          have U6 := Lib.hid (U5.out.below hb6.out)
          have D6 := Lib.hid (D5.out.below hb6.out)
          obtain ⟨L5, hL5⟩ : ∃ L5, w5.heap.size = L5 := ⟨_, rfl⟩
          rw [hL5] at O6
          have HL5 := Lib.hid (show w.heap.size ≤ L5 by rw [← hL5]; exact B5.out.size)
          clear hk2 hk ho hb6 hRl hFr hL5 P5 U5 D5
          rw [hN]
          obtain ⟨i0, hi, hz0, hz1, hz2⟩ := info_parts (show (Try.prog.info? 3).map (fun i => (i.zero, i.size, i.bytes)) = some (some (.int .i64 0), 1, 8) by kernel_rfl)
          go_wp2_with (at_builtin; refine wpList_append_rl nn_one et_i rfl _ _ rfl wr.heap.size (.slice none 0 0) 0 [] (lb b 10) A c N rfl (World.ownsRow_nil _ _ _ _) RL.out HN.out.symm rfl (by have := N10.out; omega) (Nat.le_refl _) ?_)
          intro v7 w7 hown7 hg7
          obtain ⟨A7, c7, rfl⟩ := own_form hown7
          have O7 := Lib.hid hown7
          have B7 := Lib.hid (show Below wr.heap.size wr w7 from ⟨hg7.os, hg7.tape, hg7.output, hg7.size, fun i hi => hg7.block i hi (by simp [Value.ownBlock])⟩)
          have S7 := Lib.hid B7.out.size
          clear hown7 hg7
          go_wp2_with (at_builtin; refine wpList_append_lies _ rfl _ _ 33 rfl wr.heap.size 3 i0 (.int .i64 0) 1 8 Try.underlying33 hi hz0 hz1 hz2 rfl (by decide) _ _ _ rfl (O7.out.alloc _) ⟨w7.heap.size, 0, none⟩ 1 1 [.int .i64 1] rfl rfl (fun j u hj => one_newG hj) (by intro u hu; simp at hu; subst hu; rfl) (by have := N10.out; omega) (by unfold maxLen; have := N10.out; omega) (by have := N10.out; omega) (by have := S7.out; simp; omega) (w7.heap.size + 1) (by simp) ?_)
          intro g8 cap8 w8 hown8 hgrow8 hat hgl1
          have e8 : (lb b 10 ++ [1]).length = N + 1 := by rw [List.length_append, HN.out]; rfl
          have R8 := Lib.hid (show Rl nn w8 (some ⟨g8, 0, none⟩) cap8 (lb b 10 ++ [1]) by
            have h : w8.ownsRow wr.heap.size 3 1 (.slice (some ⟨g8, 0, none⟩) (N + 1) cap8) (N + 1) ((lb b 10 ++ [1]).map nn) := by
              rw [List.map_append]; exact hown8
            obtain ⟨A', c', he, hR, _⟩ := rl_of_own h
            injection he with h1 _ h3
            rw [h1, h3]; exact hR)
          have BB8 := Lib.hid (show Below wr.heap.size wr w8 from (bon B7.out (bda w7 (.cells #[.int .i64 1] 3))).grown hgrow8 (by have := S7.out; simp; omega) (fun j hj => (O7.out.lt j hj).1))
          have B8 := Lib.hid (bon B6.out BB8.out)
          have P8 := Lib.hid (show Pb w8 p 2 0 (.map (some b2)) g (.slice none 0 0) from row_on P6.out BB8.out)
          have U8 := Lib.hid (U6.out.below BB8.out)
          have D8 := Lib.hid (D6.out.below BB8.out)
          have O8 := Lib.hid (own_below O6.out BB8.out)
          have K1 := keep_any (P := lb b 10 ++ [1]) 2 0 0 (some ⟨g8, 0, none⟩) cap8 w8 P8.out U8.out R8.out D8.out (by rw [SL2.out]; omega) (by simp) (by rw [e8]; have := N10.out; omega) (fun x hx => by
            rcases List.mem_append.1 hx with h | h
            · have := lb_lt h; omega
            · rw [List.mem_singleton] at h; omega) (by omega) rfl (fun _ => rfl)
          rw [e8] at K1
          have K1H := Lib.hid K1
          clear K1 e8 hown8 hgrow8 hat hgl1 hi hz0 hz1 hz2 O7 B7 S7 B6 P6 U6 D6 O6 RL
          go_wp2_with fail
          refine K1H.out.mono ?_
          intro e w9 hA
          have hA2 : e = .returned (.int .i64 1) ∧ Below w8.heap.size w8 w9 := by
            rcases hA with ⟨h1, h2, _⟩ | ⟨h1, _⟩
            · exact ⟨h1, h2⟩
            · rw [bad_one] at h1; cases h1
          obtain ⟨rfl, hb9⟩ := hA2
          have B9 := Lib.hid (bon B8.out hb9)
          have P9 := Lib.hid (show Pb w9 p 2 0 (.map (some b2)) g (.slice none 0 0) from row_on P8.out hb9)
          have U9 := Lib.hid (U8.out.below hb9)
          have D9 := Lib.hid (D8.out.below hb9)
          have O9 := Lib.hid (own_below O8.out hb9)
          have K2 := keep_any (P := []) 2 odd 0 none 0 w9 P9.out U9.out (Rl.nil_ _ _ _ _) D9.out (by rw [SL2.out]; omega) (by simp) (by simp) (fun x hx => by simp at hx) (by omega) WO.out root_nil
          rw [List.length_nil] at K2
          have K2H := Lib.hid K2
          clear K2 hA hb9 K1H R8 BB8
          go_wp2_with fail
          refine K2H.out.mono ?_
          intro e w10 hA
          by_cases hodd : odd = 0
          · subst hodd
            have hA2 : ∃ b3, e = .returned (.int .i64 0) ∧ Pb w10 p 3 0 (.map (some b3)) g (.slice none 0 0) ∧ Us w10 b3 2 (nU []) ∧ (∃ S, S.length = 24 ∧ Dk B w10 g gs (.slice none 0 0) S []) ∧ Cp B p g gs w9 w10 := by
              rcases hA with ⟨_, _, h1 | h1⟩ | ⟨_, _, b3, h1, h2, h3, h4, h5⟩
              · cases h1
              · cases h1
              · exact ⟨b3, h1, h2, h3, ⟨_, by rw [flush_len, flush_len, SL2.out], h4⟩, h5⟩
            obtain ⟨b3, rfl, hp10, hu10, ⟨S3, hS3, hd10⟩, hc10⟩ := hA2
            have SL3 := Lib.hid hS3
            have B10 := Lib.hid (hc10.below B9.out BS2.out PP.out HGG.out.1 HGG.out.2)
            have P10 := Lib.hid hp10
            have U10 := Lib.hid hu10
            have D10 := Lib.hid hd10
            have O10 := Lib.hid (own_cp O9.out P9.out D9.out hc10)
            have TN := Lib.hid (turn_any (b := p) 3 w10 (row_c (i := 0) hp10 rfl))
            have RL10 := Lib.hid (show Rl nn w10 A c (lb b 10) by
              obtain ⟨A', c', he, hR, _⟩ := rl_of_own O10.out
              injection he with h1 _ h3
              rw [h1, h3]; exact hR)
            have K3 := keep_any (P := lb b 10) 3 0 0 A c w10 P10.out U10.out RL10.out D10.out (by rw [SL3.out]; omega) (by simp) (by rw [HN.out]; have := N10.out; omega) (fun x hx => by have := lb_lt hx; omega) (by omega) rfl (fun _ => rfl)
            rw [HN.out] at K3
            have K3H := Lib.hid K3
            clear K3 hA hp10 hu10 hd10 hc10 hS3 K2H
            go_wp2_with fail
            refine TN.out.mono ?_
            rintro e w11 ⟨rfl, hw⟩
            obtain rfl : w10 = w11 := hw.symm
            clear hw TN
            go_wp2_with fail
            refine K3H.out.mono ?_
            intro e w11 hA
            by_cases hN0 : N = 0
            · have hA3 : ∃ b4, e = .returned (.int .i64 0) ∧ Pb w11 p 4 0 (.map (some b4)) g (.slice none 0 0) ∧ Us w11 b4 (2 + N) (nU (lb b 10)) ∧ (∃ S, S.length = 24 ∧ Dk B w11 g gs (.slice none 0 0) S []) ∧ Cp B p g gs w10 w11 := by
                have hl : lb b 10 = [] := List.eq_nil_of_length_eq_zero (HN.out.trans hN0)
                rcases hA with ⟨_, _, h1 | h1⟩ | ⟨_, _, b4, h1, h2, h3, h4, h5⟩
                · rw [hl] at h1; cases h1
                · cases h1
                · exact ⟨b4, h1, h2, h3, ⟨_, by rw [flush_len, flush_len, SL3.out], h4⟩, h5⟩
              obtain ⟨bq, rfl, hpq, huq, ⟨S4, hS4, hdq⟩, hcq⟩ := hA3
              have BF := Lib.hid (hcq.below B10.out BS2.out PP.out HGG.out.1 HGG.out.2)
              have HN0 := Lib.hid hN0
              have PF := Lib.hid hpq
              have UF := Lib.hid (huq.mono (n' := 100) (by have := N10.out; omega))
              have DF := Lib.hid hdq
              have SL4 := Lib.hid hS4
              obtain ⟨M, hM⟩ : ∃ M, N + 2 = M := ⟨_, rfl⟩
              have HM := Lib.hid hM
              have LU := Lib.hid (show (usedL (nU (lb b 10))).length = M by rw [← hM]; rw [used_lb, HN.out])
              have UD := Lib.hid (used_any (b := p) w11 UF.out (row_c (i := 2) PF.out rfl) (by omega))
              clear hA hpq huq hdq hS4 hM hcq
              go_wp2_with fail
              refine UD.out.mono ?_
              rintro e w12 ⟨v12, rfl, ho12, hb12⟩
              obtain ⟨A12, c12, rfl⟩ := own_form ho12
              have B12 := Lib.hid (bon BF.out hb12)
              have P12 := Lib.hid (show Pb w12 p 4 0 (.map (some bq)) g (.slice none 0 0) from row_on PF.out hb12)
              have U12 := Lib.hid (UF.out.below hb12)
              have D12 := Lib.hid (DF.out.below hb12)
              obtain ⟨L12, hL12⟩ : ∃ z, w12.heap.size = z := ⟨_, rfl⟩
              have HL12 := Lib.hid (show w.heap.size ≤ L12 ∧ w12.heap.size = L12 from ⟨by rw [← hL12]; exact B12.out.size, hL12⟩)
              clear ho12 hb12 UD hL12
              go_wp2_with fail
              rw [LU.out]
              go_loopw [22, 23] (fun xv kv w13 => ∃ (k m : Nat) (Fl : List Nat) (f : Value), k ≤ 12 ∧ xv = .int .i64 (m : Int) ∧ kv = .int .i64 (k : Int) ∧ Hid (Pb w13 p 4 0 (.map (some bq)) g f) ∧ Hid (Us w13 bq 100 (nU (lb b 10))) ∧ Hid (w13.ownsRow L12 3 1 f Fl.length (Fl.map nn)) ∧ Hid (Dk B w13 g gs (.slice none 0 0) S4 []) ∧ Hid (Below w.heap.size w w13) ∧ Hid (L12 ≤ w13.heap.size) ∧ Hid (Fl.length = m ∧ cnt (taken (nU (lb b 10)) Fl) 12 = cnt (nU (lb b 10)) 12 + m ∧ m ≤ k ∧ (m = k ∨ ∀ i, i < 12 → taken (nU (lb b 10)) Fl i = true))) (fun _ kv _ => 12 - (intOf kv).toNat)
              case atStart => exact ⟨0, 0, [], .slice none 0 0, by omega, rfl, rfl, P12, U12, Lib.hid (World.ownsRow_nil _ _ _ _), D12, B12, Lib.hid (by rw [HL12.out.2]; exact Nat.le_refl _), Lib.hid ⟨rfl, by rw [cnt_ext (fun i _ => taken_nil _ i)]; rfl, Nat.le_refl _, .inl rfl⟩⟩
              case round =>
                obtain ⟨k, m, Fl, f, hk, rfl, rfl, hp, hu, ho, hd, hbl, hl, hc⟩ := hrel
                by_cases hk2 : k < 12
                · have AL := Lib.hid (alloc_any 12 wr hp.out hu.out ho.out hl.out hd.out (by rw [SL4.out]) (by have := hc.out; omega))
                  have d1 : decide ((k : Int) < 12) = true := decide_eq_true (by omega)
                  have KL := Lib.hid hk2
                  have kw := Lib.hid (wup (k := k) (by omega))
                  have mw := Lib.hid (wup (k := m) (by have := hc.out; omega))
                  clear hk2 hk
                  go_wp2_with fail
                  refine AL.out.mono ?_
                  intro e w14 hA
                  rcases hA with ⟨x, f', hx, h1, h2, rfl, hp4, hu4, ho4, hd4, hc4⟩ | ⟨h1, rfl, hb4⟩
                  · have B4 := Lib.hid (hc4.below (N := w.heap.size) hbl.out hbl.out.size PP.out (fun j hj => Nat.le_trans HL12.out.1 (ho.out.lt j hj).1))
                    have P4 := Lib.hid hp4
                    have U4 := Lib.hid hu4
                    have O4 := Lib.hid (show w14.ownsRow L12 3 1 f' (Fl ++ [x]).length ((Fl ++ [x]).map nn) by rw [List.length_append]; exact ho4)
                    have D4 := Lib.hid hd4
                    have L4 := Lib.hid (Nat.le_trans hl.out hc4.size)
                    have C4 := Lib.hid (show (Fl ++ [x]).length = m + 1 ∧ cnt (taken (nU (lb b 10)) (Fl ++ [x])) 12 = cnt (nU (lb b 10)) 12 + (m + 1) ∧ m + 1 ≤ k + 1 ∧ (m + 1 = k + 1 ∨ ∀ i, i < 12 → taken (nU (lb b 10)) (Fl ++ [x]) i = true) by
                      obtain ⟨q1, q2, q3, q4⟩ := hc.out
                      refine ⟨by rw [List.length_append, q1]; rfl, ?_, by omega, ?_⟩
                      · rw [cnt_ext (fun i _ => taken_add _ Fl x i), cnt_ins h2 hx, q2]; omega
                      · rcases q4 with q4 | q4
                        · exact .inl (by omega)
                        · have := q4 x hx
                          rw [h2] at this; cases this)
                    clear hx h1 h2 hp4 hu4 ho4 hd4 hc4 AL
                    go_wp2_with fail
                    exact ⟨⟨k + 1, m + 1, Fl ++ [x], f', KL.out, by first | (rw [mw.out]; rfl) | rfl, by first | (rw [kw.out]; rfl) | rfl, P4, U4, O4, D4, B4, L4, C4⟩, by first | exact meas_up KL.out kw.out | exact meas_up1 KL.out⟩
                  · have B4 := Lib.hid (bon hbl.out hb4)
                    have P4 := Lib.hid (show Pb w14 p 4 0 (.map (some bq)) g f from row_on hp.out hb4)
                    have U4 := Lib.hid (hu.out.below hb4)
                    have O4 := Lib.hid (own_below ho.out hb4)
                    have D4 := Lib.hid (hd.out.below hb4)
                    have L4 := Lib.hid (Nat.le_trans hl.out hb4.size)
                    have C4 := Lib.hid (show Fl.length = m ∧ cnt (taken (nU (lb b 10)) Fl) 12 = cnt (nU (lb b 10)) 12 + m ∧ m ≤ k + 1 ∧ (m = k + 1 ∨ ∀ i, i < 12 → taken (nU (lb b 10)) Fl i = true) from ⟨hc.out.1, hc.out.2.1, by have := hc.out.2.2.1; omega, .inr h1⟩)
                    clear h1 hb4 AL
                    go_wp2_with fail
                    exact ⟨⟨k + 1, m, Fl, f, KL.out, rfl, by first | (rw [kw.out]; rfl) | rfl, P4, U4, O4, D4, B4, L4, C4⟩, by first | exact meas_up KL.out kw.out | exact meas_up1 KL.out⟩
                · obtain rfl : k = 12 := by omega
                  rw [show (((12 : Nat) : Int)) = (12 : Int) from rfl]
                  have g0 := HN0.out
                  subst g0
                  clear hk2 hk
                  go_wp2
                  go_ret
                  exact ⟨rfl, hbl.out⟩
            · have hA3 : e = .returned (.int .i64 1) ∧ Below w10.heap.size w10 w11 := by
                rcases hA with ⟨h1, h2, _⟩ | ⟨h1, _⟩
                · exact ⟨h1, h2⟩
                · rw [bad_nil (by rw [HN.out]; omega)] at h1; cases h1
              obtain ⟨rfl, hb11⟩ := hA3
              have BF := Lib.hid (bon B10.out hb11)
              obtain ⟨bq, hbq⟩ : ∃ z, z = b3 := ⟨_, rfl⟩
              obtain ⟨S4, hS4q⟩ : ∃ z, z = S3 := ⟨_, rfl⟩
              have hpq : Pb w11 p 3 0 (.map (some bq)) g (.slice none 0 0) := by rw [hbq]; exact row_on P10.out hb11
              have huq : Us w11 bq 2 (nU []) := by rw [hbq]; exact U10.out.below hb11
              have hdq : Dk B w11 g gs (.slice none 0 0) S4 [] := by rw [hS4q]; exact D10.out.below hb11
              have hS4 : S4.length = 24 := by rw [hS4q]; exact SL3.out
              have HN0 := Lib.hid hN0
              clear hbq hS4q hb11
              have PF := Lib.hid hpq
              have UF := Lib.hid (huq.mono (n' := 100) (by have := N10.out; omega))
              have DF := Lib.hid hdq
              have SL4 := Lib.hid hS4
              obtain ⟨M, hM⟩ : ∃ M, 2 = M := ⟨_, rfl⟩
              have HM := Lib.hid hM
              have LU := Lib.hid (show (usedL (nU ([]))).length = M by rw [← hM]; exact used_nil)
              have UD := Lib.hid (used_any (b := p) w11 UF.out (row_c (i := 2) PF.out rfl) (by omega))
              clear hA hpq huq hdq hS4 hM
              go_wp2_with fail
              refine UD.out.mono ?_
              rintro e w12 ⟨v12, rfl, ho12, hb12⟩
              obtain ⟨A12, c12, rfl⟩ := own_form ho12
              have B12 := Lib.hid (bon BF.out hb12)
              have P12 := Lib.hid (show Pb w12 p 3 0 (.map (some bq)) g (.slice none 0 0) from row_on PF.out hb12)
              have U12 := Lib.hid (UF.out.below hb12)
              have D12 := Lib.hid (DF.out.below hb12)
              obtain ⟨L12, hL12⟩ : ∃ z, w12.heap.size = z := ⟨_, rfl⟩
              have HL12 := Lib.hid (show w.heap.size ≤ L12 ∧ w12.heap.size = L12 from ⟨by rw [← hL12]; exact B12.out.size, hL12⟩)
              clear ho12 hb12 UD hL12
              go_wp2_with fail
              rw [LU.out]
              go_loopw [22, 23] (fun xv kv w13 => ∃ (k m : Nat) (Fl : List Nat) (f : Value), k ≤ 12 ∧ xv = .int .i64 (m : Int) ∧ kv = .int .i64 (k : Int) ∧ Hid (Pb w13 p 3 0 (.map (some bq)) g f) ∧ Hid (Us w13 bq 100 (nU ([]))) ∧ Hid (w13.ownsRow L12 3 1 f Fl.length (Fl.map nn)) ∧ Hid (Dk B w13 g gs (.slice none 0 0) S4 []) ∧ Hid (Below w.heap.size w w13) ∧ Hid (L12 ≤ w13.heap.size) ∧ Hid (Fl.length = m ∧ cnt (taken (nU ([])) Fl) 12 = cnt (nU ([])) 12 + m ∧ m ≤ k ∧ (m = k ∨ ∀ i, i < 12 → taken (nU ([])) Fl i = true))) (fun _ kv _ => 12 - (intOf kv).toNat)
              case atStart => exact ⟨0, 0, [], .slice none 0 0, by omega, rfl, rfl, P12, U12, Lib.hid (World.ownsRow_nil _ _ _ _), D12, B12, Lib.hid (by rw [HL12.out.2]; exact Nat.le_refl _), Lib.hid ⟨rfl, by rw [cnt_ext (fun i _ => taken_nil _ i)]; rfl, Nat.le_refl _, .inl rfl⟩⟩
              case round =>
                obtain ⟨k, m, Fl, f, hk, rfl, rfl, hp, hu, ho, hd, hbl, hl, hc⟩ := hrel
                by_cases hk2 : k < 12
                · have AL := Lib.hid (alloc_any 12 wr hp.out hu.out ho.out hl.out hd.out (by rw [SL4.out]) (by have := hc.out; omega))
                  have d1 : decide ((k : Int) < 12) = true := decide_eq_true (by omega)
                  have KL := Lib.hid hk2
                  have kw := Lib.hid (wup (k := k) (by omega))
                  have mw := Lib.hid (wup (k := m) (by have := hc.out; omega))
                  clear hk2 hk
                  go_wp2_with fail
                  refine AL.out.mono ?_
                  intro e w14 hA
                  rcases hA with ⟨x, f', hx, h1, h2, rfl, hp4, hu4, ho4, hd4, hc4⟩ | ⟨h1, rfl, hb4⟩
                  · have B4 := Lib.hid (hc4.below (N := w.heap.size) hbl.out hbl.out.size PP.out (fun j hj => Nat.le_trans HL12.out.1 (ho.out.lt j hj).1))
                    have P4 := Lib.hid hp4
                    have U4 := Lib.hid hu4
                    have O4 := Lib.hid (show w14.ownsRow L12 3 1 f' (Fl ++ [x]).length ((Fl ++ [x]).map nn) by rw [List.length_append]; exact ho4)
                    have D4 := Lib.hid hd4
                    have L4 := Lib.hid (Nat.le_trans hl.out hc4.size)
                    have C4 := Lib.hid (show (Fl ++ [x]).length = m + 1 ∧ cnt (taken (nU ([])) (Fl ++ [x])) 12 = cnt (nU ([])) 12 + (m + 1) ∧ m + 1 ≤ k + 1 ∧ (m + 1 = k + 1 ∨ ∀ i, i < 12 → taken (nU ([])) (Fl ++ [x]) i = true) by
                      obtain ⟨q1, q2, q3, q4⟩ := hc.out
                      refine ⟨by rw [List.length_append, q1]; rfl, ?_, by omega, ?_⟩
                      · rw [cnt_ext (fun i _ => taken_add _ Fl x i), cnt_ins h2 hx, q2]; omega
                      · rcases q4 with q4 | q4
                        · exact .inl (by omega)
                        · have := q4 x hx
                          rw [h2] at this; cases this)
                    clear hx h1 h2 hp4 hu4 ho4 hd4 hc4 AL
                    go_wp2_with fail
                    exact ⟨⟨k + 1, m + 1, Fl ++ [x], f', KL.out, by first | (rw [mw.out]; rfl) | rfl, by first | (rw [kw.out]; rfl) | rfl, P4, U4, O4, D4, B4, L4, C4⟩, by first | exact meas_up KL.out kw.out | exact meas_up1 KL.out⟩
                  · have B4 := Lib.hid (bon hbl.out hb4)
                    have P4 := Lib.hid (show Pb w14 p 3 0 (.map (some bq)) g f from row_on hp.out hb4)
                    have U4 := Lib.hid (hu.out.below hb4)
                    have O4 := Lib.hid (own_below ho.out hb4)
                    have D4 := Lib.hid (hd.out.below hb4)
                    have L4 := Lib.hid (Nat.le_trans hl.out hb4.size)
                    have C4 := Lib.hid (show Fl.length = m ∧ cnt (taken (nU ([])) Fl) 12 = cnt (nU ([])) 12 + m ∧ m ≤ k + 1 ∧ (m = k + 1 ∨ ∀ i, i < 12 → taken (nU ([])) Fl i = true) from ⟨hc.out.1, hc.out.2.1, by have := hc.out.2.2.1; omega, .inr h1⟩)
                    clear h1 hb4 AL
                    go_wp2_with fail
                    exact ⟨⟨k + 1, m, Fl, f, KL.out, rfl, by first | (rw [kw.out]; rfl) | rfl, P4, U4, O4, D4, B4, L4, C4⟩, by first | exact meas_up KL.out kw.out | exact meas_up1 KL.out⟩
                · obtain rfl : k = 12 := by omega
                  rw [show (((12 : Nat) : Int)) = (12 : Int) from rfl]
                  have g1 : ((N : Int) == 0) = false := by have := HN0.out; simp; omega
                  have g2 : (N == 0) = false := by have := HN0.out; simp; omega
                  have g3 : decide ((0 : Int) < (N : Int)) = true := decide_eq_true (by have := HN0.out; omega)
                  have g4 : decide (0 < N) = true := decide_eq_true (by have := HN0.out; omega)
                  have g5 : ¬ N = 0 := HN0.out
                  clear hk2 hk
                  go_wp2
                  go_ret
                  exact ⟨rfl, hbl.out⟩
          · have hA2 : e = .returned (.int .i64 1) ∧ Below w9.heap.size w9 w10 := by
              rcases hA with ⟨h1, h2, _⟩ | ⟨_, h1, _⟩
              · exact ⟨h1, h2⟩
              · exact absurd (root_nil h1) hodd
            obtain ⟨rfl, hb10⟩ := hA2
            have B10 := Lib.hid (bon B9.out hb10)
            have P10 := Lib.hid (show Pb w10 p 2 0 (.map (some b2)) g (.slice none 0 0) from row_on P9.out hb10)
            have U10 := Lib.hid (U9.out.below hb10)
            have D10 := Lib.hid (D9.out.below hb10)
            have O10 := Lib.hid (own_below O9.out hb10)
            have TN := Lib.hid (turn_any (b := p) 2 w10 (row_c (i := 0) P10.out rfl))
            have RL10 := Lib.hid (show Rl nn w10 A c (lb b 10) by
              obtain ⟨A', c', he, hR, _⟩ := rl_of_own O10.out
              injection he with h1 _ h3
              rw [h1, h3]; exact hR)
            have K3 := keep_any (P := lb b 10) 2 0 0 A c w10 P10.out U10.out RL10.out D10.out (by rw [SL2.out]; omega) (by simp) (by rw [HN.out]; have := N10.out; omega) (fun x hx => by have := lb_lt hx; omega) (by omega) rfl (fun _ => rfl)
            rw [HN.out] at K3
            have K3H := Lib.hid K3
            have HOD := Lib.hid hodd
            clear K3 hA hb10 K2H hodd
            go_wp2_with fail
            refine TN.out.mono ?_
            rintro e w11 ⟨rfl, hw⟩
            obtain rfl : w10 = w11 := hw.symm
            clear hw TN
            go_wp2_with fail
            refine K3H.out.mono ?_
            intro e w11 hA
            have hA3 : ∃ b4, e = .returned (.int .i64 0) ∧ Pb w11 p 3 0 (.map (some b4)) g (.slice none 0 0) ∧ Us w11 b4 (2 + N) (nU (lb b 10)) ∧ (∃ S, S.length = 24 ∧ Dk B w11 g gs (.slice none 0 0) S []) ∧ Cp B p g gs w10 w11 := by
              rcases hA with ⟨_, _, h1 | h1⟩ | ⟨_, _, b4, h1, h2, h3, h4, h5⟩
              · rw [bad_lb (fun i hi => decide_eq_true hi)] at h1; cases h1
              · cases h1
              · exact ⟨b4, h1, h2, h3, ⟨_, by rw [flush_len, flush_len, SL2.out], h4⟩, h5⟩
            obtain ⟨bq, rfl, hpq, huq, ⟨S4, hS4, hdq⟩, hcq⟩ := hA3
            have BF := Lib.hid (hcq.below B10.out BS2.out PP.out HGG.out.1 HGG.out.2)
            have PF := Lib.hid hpq
            have UF := Lib.hid (huq.mono (n' := 100) (by have := N10.out; omega))
            have DF := Lib.hid hdq
            have SL4 := Lib.hid hS4
            obtain ⟨M, hM⟩ : ∃ M, N + 2 = M := ⟨_, rfl⟩
            have HM := Lib.hid hM
            have LU := Lib.hid (show (usedL (nU (lb b 10))).length = M by rw [← hM]; rw [used_lb, HN.out])
            have UD := Lib.hid (used_any (b := p) w11 UF.out (row_c (i := 2) PF.out rfl) (by omega))
            clear hA hpq huq hdq hS4 hM hcq
            go_wp2_with fail
            refine UD.out.mono ?_
            rintro e w12 ⟨v12, rfl, ho12, hb12⟩
            obtain ⟨A12, c12, rfl⟩ := own_form ho12
            have B12 := Lib.hid (bon BF.out hb12)
            have P12 := Lib.hid (show Pb w12 p 3 0 (.map (some bq)) g (.slice none 0 0) from row_on PF.out hb12)
            have U12 := Lib.hid (UF.out.below hb12)
            have D12 := Lib.hid (DF.out.below hb12)
            obtain ⟨L12, hL12⟩ : ∃ z, w12.heap.size = z := ⟨_, rfl⟩
            have HL12 := Lib.hid (show w.heap.size ≤ L12 ∧ w12.heap.size = L12 from ⟨by rw [← hL12]; exact B12.out.size, hL12⟩)
            clear ho12 hb12 UD hL12
            go_wp2_with fail
            rw [LU.out]
            go_loopw [22, 23] (fun xv kv w13 => ∃ (k m : Nat) (Fl : List Nat) (f : Value), k ≤ 12 ∧ xv = .int .i64 (m : Int) ∧ kv = .int .i64 (k : Int) ∧ Hid (Pb w13 p 3 0 (.map (some bq)) g f) ∧ Hid (Us w13 bq 100 (nU (lb b 10))) ∧ Hid (w13.ownsRow L12 3 1 f Fl.length (Fl.map nn)) ∧ Hid (Dk B w13 g gs (.slice none 0 0) S4 []) ∧ Hid (Below w.heap.size w w13) ∧ Hid (L12 ≤ w13.heap.size) ∧ Hid (Fl.length = m ∧ cnt (taken (nU (lb b 10)) Fl) 12 = cnt (nU (lb b 10)) 12 + m ∧ m ≤ k ∧ (m = k ∨ ∀ i, i < 12 → taken (nU (lb b 10)) Fl i = true))) (fun _ kv _ => 12 - (intOf kv).toNat)
            case atStart => exact ⟨0, 0, [], .slice none 0 0, by omega, rfl, rfl, P12, U12, Lib.hid (World.ownsRow_nil _ _ _ _), D12, B12, Lib.hid (by rw [HL12.out.2]; exact Nat.le_refl _), Lib.hid ⟨rfl, by rw [cnt_ext (fun i _ => taken_nil _ i)]; rfl, Nat.le_refl _, .inl rfl⟩⟩
            case round =>
              obtain ⟨k, m, Fl, f, hk, rfl, rfl, hp, hu, ho, hd, hbl, hl, hc⟩ := hrel
              by_cases hk2 : k < 12
              · have AL := Lib.hid (alloc_any 12 wr hp.out hu.out ho.out hl.out hd.out (by rw [SL4.out]) (by have := hc.out; omega))
                have d1 : decide ((k : Int) < 12) = true := decide_eq_true (by omega)
                have KL := Lib.hid hk2
                have kw := Lib.hid (wup (k := k) (by omega))
                have mw := Lib.hid (wup (k := m) (by have := hc.out; omega))
                clear hk2 hk
                go_wp2_with fail
                refine AL.out.mono ?_
                intro e w14 hA
                rcases hA with ⟨x, f', hx, h1, h2, rfl, hp4, hu4, ho4, hd4, hc4⟩ | ⟨h1, rfl, hb4⟩
                · have B4 := Lib.hid (hc4.below (N := w.heap.size) hbl.out hbl.out.size PP.out (fun j hj => Nat.le_trans HL12.out.1 (ho.out.lt j hj).1))
                  have P4 := Lib.hid hp4
                  have U4 := Lib.hid hu4
                  have O4 := Lib.hid (show w14.ownsRow L12 3 1 f' (Fl ++ [x]).length ((Fl ++ [x]).map nn) by rw [List.length_append]; exact ho4)
                  have D4 := Lib.hid hd4
                  have L4 := Lib.hid (Nat.le_trans hl.out hc4.size)
                  have C4 := Lib.hid (show (Fl ++ [x]).length = m + 1 ∧ cnt (taken (nU (lb b 10)) (Fl ++ [x])) 12 = cnt (nU (lb b 10)) 12 + (m + 1) ∧ m + 1 ≤ k + 1 ∧ (m + 1 = k + 1 ∨ ∀ i, i < 12 → taken (nU (lb b 10)) (Fl ++ [x]) i = true) by
                    obtain ⟨q1, q2, q3, q4⟩ := hc.out
                    refine ⟨by rw [List.length_append, q1]; rfl, ?_, by omega, ?_⟩
                    · rw [cnt_ext (fun i _ => taken_add _ Fl x i), cnt_ins h2 hx, q2]; omega
                    · rcases q4 with q4 | q4
                      · exact .inl (by omega)
                      · have := q4 x hx
                        rw [h2] at this; cases this)
                  clear hx h1 h2 hp4 hu4 ho4 hd4 hc4 AL
                  go_wp2_with fail
                  exact ⟨⟨k + 1, m + 1, Fl ++ [x], f', KL.out, by first | (rw [mw.out]; rfl) | rfl, by first | (rw [kw.out]; rfl) | rfl, P4, U4, O4, D4, B4, L4, C4⟩, by first | exact meas_up KL.out kw.out | exact meas_up1 KL.out⟩
                · have B4 := Lib.hid (bon hbl.out hb4)
                  have P4 := Lib.hid (show Pb w14 p 3 0 (.map (some bq)) g f from row_on hp.out hb4)
                  have U4 := Lib.hid (hu.out.below hb4)
                  have O4 := Lib.hid (own_below ho.out hb4)
                  have D4 := Lib.hid (hd.out.below hb4)
                  have L4 := Lib.hid (Nat.le_trans hl.out hb4.size)
                  have C4 := Lib.hid (show Fl.length = m ∧ cnt (taken (nU (lb b 10)) Fl) 12 = cnt (nU (lb b 10)) 12 + m ∧ m ≤ k + 1 ∧ (m = k + 1 ∨ ∀ i, i < 12 → taken (nU (lb b 10)) Fl i = true) from ⟨hc.out.1, hc.out.2.1, by have := hc.out.2.2.1; omega, .inr h1⟩)
                  clear h1 hb4 AL
                  go_wp2_with fail
                  exact ⟨⟨k + 1, m, Fl, f, KL.out, rfl, by first | (rw [kw.out]; rfl) | rfl, P4, U4, O4, D4, B4, L4, C4⟩, by first | exact meas_up KL.out kw.out | exact meas_up1 KL.out⟩
              · obtain rfl : k = 12 := by omega
                rw [show (((12 : Nat) : Int)) = (12 : Int) from rfl]
                have HMN := Lib.hid (show m + N = 10 by
                  obtain ⟨q1, q2, q3, q4⟩ := hc.out
                  have h1 := cnt_nU b 10 (Nat.le_refl _)
                  rw [show 10 + 2 = 12 from rfl, show cnt b 10 = N from (lb_len b 10).symm.trans HN.out] at h1
                  have h2 := cnt_le (taken (nU (lb b 10)) Fl) 12
                  rcases q4 with q4 | q4
                  · omega
                  · have h3 := cnt_all q4
                    omega)
                have o1 : (odd == 0) = false := by have := HOD.out; simp; exact this
                have o2 : ¬ odd = 0 := HOD.out
                have f1 := Lib.hid (show wrap64 ((N : Int) + 2) = (M : Int) by rw [IntWalk.wrap64_in _ ⟨by omega, by have := N10.out; omega⟩]; have := HM.out; omega)
                have f2 := Lib.hid (show wrap64 (10 - (N : Int)) = (m : Int) by rw [IntWalk.wrap64_in _ ⟨by have := N10.out; omega, by have := N10.out; omega⟩]; have := HMN.out; omega)
                have g1 := f1.out
                have g2 := f2.out
                clear hk2 hk
                go_wp2
                go_ret
                exact ⟨rfl, hbl.out⟩
end Go.Proofs.Ytkklekkanogphaa
