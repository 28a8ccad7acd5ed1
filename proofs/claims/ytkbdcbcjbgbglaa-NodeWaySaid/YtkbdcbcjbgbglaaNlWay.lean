/-
  astrolabelaw21.NodeWay: in a node that is no leaf a key's place is that of the kid for it.
-/
import Derived.Test.YtkbdcbcjbgbglaaNn
namespace Go.Proofs.Ytkbdcbcjbgbglaa
open Go.RowKit
set_option linter.unusedVariables false
set_option maxHeartbeats 4000000 in
set_option maxRecDepth 100000 in
theorem way_any (A0 : Option Addr) (c0 : Nat) (l : List (List UInt8)) (a b : List UInt8) (w : World) (h : Rl sv w A0 c0 l) :
    Calls Try.prog 9 #[.slice A0 l.length c0, .string ⟨a.toArray⟩, .string ⟨b.toArray⟩] w fun e w' => e = .returned (.bool true) ∧ Below w.heap.size w w' := by
  have GF := Lib.hid (growM_facts l (min 12 l.length))
  have GA := Lib.hid (fun V (hV : Below w.heap.size w V) => grow_any A0 c0 l V (h.below hV))
  obtain ⟨p, hp⟩ : ∃ p, growM l (min 12 l.length) = p := ⟨_, rfl⟩
  rw [hp] at GA GF
  obtain ⟨ks, ds⟩ := p
  simp only at GA
  have lk : ks.length ≤ 12 := by have := GF.out.2.2.1; simp only at this; omega
  have ld : ds.length ≤ 12 := by have := GF.out.2.1; simp only at this; omega
  have HSR := Lib.hid (show Srt ks from GF.out.1)
  clear h hp GF
  go_enter Try.func9, Try.ntmps9
  go_wp2_with fail
  refine (examples_any _).mono ?_
  rintro e w1 ⟨rfl, hb⟩
  have K1 := Lib.hid hb
  clear hb
  go_wp2_with fail
  refine (GA.out _ K1.out).mono ?_
  rintro e w2 ⟨A1, c1, B1, d1, rfl, hk, hd, hb⟩
  have K2 := Lib.hid (K1.out.trans (hb.mono K1.out.size))
  have V2 := Lib.hid (And.intro hk hd)
  clear hb hk hd
  go_upto_region 5 with (fail)
  obtain ⟨V, hV⟩ : ∃ V : World, V = w2.alloc (.cells #[.bool true, .slice A1 ks.length c1, .slice B1 ds.length d1] 25) := ⟨_, rfl⟩
  have RN := Lib.hid (show V.heap[w2.heap.size]? = some (.cells #[.bool true, .slice A1 ks.length c1, .slice B1 ds.length d1] 25 (0, 0)) by rw [hV]; exact heap_alloc_new _ _)
  have BV := Lib.hid (show Below w2.heap.size w2 V by rw [hV]; exact bda _ _)
  rw [← hV]
  clear hV
  have VN := Lib.hid (And.intro (V2.out.1.below BV.out) (V2.out.2.below BV.out))
  have KN := Lib.hid (K2.out.trans (BV.out.mono K2.out.size))
  have GN := Lib.hid K2.out.size
  have FK1 := Lib.hid (fun x (K : Below V.heap.size V x) => row_c (row_on RN.out K) (i := 1) rfl)
  have FK2 := Lib.hid (fun x (K : Below V.heap.size V x) => row_c (row_on RN.out K) (i := 2) rfl)
  have ZX := Lib.hid (Nat.le_refl w2.heap.size)
  have ZY := Lib.hid BV.out.size
  refine wp_operands (W := V) rfl 7 [17, 18, 19, 20, 21, 22, 23] (fun i u x => match i with | 0 => u = .pointer (some ⟨w2.heap.size, 1, none⟩) | 1 => u = .slice A1 ks.length c1 | 2 => ∃ g, u = .slice (some ⟨g, 0, none⟩) 1 1 ∧ x.heap[g]? = some (.cells #[.int .i64 500] 3 (0, 0)) ∧ V.heap.size ≤ g | 3 => u = .pointer (some ⟨w2.heap.size, 2, none⟩) | 4 => u = .slice B1 ds.length d1 | 5 => ∃ A0 c0, u = .slice A0 (1 + ds.length) c0 ∧ Rl nv x A0 c0 (500 :: ds) ∧ Fr V.heap.size A0 | 6 => ∃ A0 c0, u = .agg #[.bool false, .slice A1 ks.length c1, .slice A0 (1 + ds.length) c0] ∧ Rl nv x A0 c0 (500 :: ds) ∧ Fr V.heap.size A0 | _ => True) (fun _ => false)
    (by decide) rfl (by kernel_rfl) (by kernel_rfl) (by decide) (by kernel_rfl) ?_ (fun _ _ _ h => by cases h) ?_ ?_
  · intro i u x x' hi hR hb'
    have hi' : i = 0 ∨ i = 1 ∨ i = 2 ∨ i = 3 ∨ i = 4 ∨ i = 5 ∨ i = 6 := by omega
    rcases hi' with rfl | rfl | rfl | rfl | rfl | rfl | rfl
    · exact hR
    · exact hR
    · obtain ⟨g, e, hg, hn⟩ := hR; exact ⟨g, e, (hb'.block g (heap_lt hg)).trans hg, hn⟩
    · exact hR
    · exact hR
    · obtain ⟨A0, c0, e, hr, hf⟩ := hR; exact ⟨A0, c0, e, hr.below hb', hf⟩
    · obtain ⟨A0, c0, e, hr, hf⟩ := hR; exact ⟨A0, c0, e, hr.below hb', hf⟩
  · intro i av x K hi hF hb' hw hK
    have hi' : i = 0 ∨ i = 1 ∨ i = 2 ∨ i = 3 ∨ i = 4 ∨ i = 5 ∨ i = 6 := by omega
    rcases hi' with rfl | rfl | rfl | rfl | rfl | rfl | rfl
    · simp only [wpOp, List.getElem?_toArray, List.getElem?_cons_zero, Region.wanted, if_true]
      refine Or.inl ?_
      have e0 : av.tmps.getD 8 undef = .pointer (some ⟨w2.heap.size, 0, none⟩) := hF.2.2 8 (by decide)
      have e0e : av.eval (.tmp 8) = .pointer (some ⟨w2.heap.size, 0, none⟩) := e0
      have e0g : av.tmps[8]?.getD undef = .pointer (some ⟨w2.heap.size, 0, none⟩) := by have := e0; simp only [Array.getD_eq_getD_getElem?] at this; exact this
      clear hw hF
      simp only [Oper.wp, execOp]
      try simp only [e0e]
      go_simp
      exact hK _ x (by first | rfl | (simp only [Nat.add_zero]; done) | (congr 1; omega)) (Below.refl _ _) (fun h => by cases h)
    · simp only [wpOp, List.getElem?_toArray, List.getElem?_cons_succ, List.getElem?_cons_zero, Region.wanted, if_true]
      refine Or.inl ?_
      have e0 : av.tmps.getD 17 undef = .pointer (some ⟨w2.heap.size, 1, none⟩) := (hw 0 (by kernel_rfl))
      have e0e : av.eval (.tmp 17) = .pointer (some ⟨w2.heap.size, 1, none⟩) := e0
      have e0g : av.tmps[17]?.getD undef = .pointer (some ⟨w2.heap.size, 1, none⟩) := by have := e0; simp only [Array.getD_eq_getD_getElem?] at this; exact this
      have f1 := FK1.out x hb'
      clear hw hF
      simp only [Oper.wp, execOp]
      try simp only [e0e]
      go_simp
      exact hK _ x (by first | rfl | (simp only [Nat.add_zero]; done) | (congr 1; omega)) (Below.refl _ _) (fun h => by cases h)
    · simp only [wpOp, List.getElem?_toArray, List.getElem?_cons_succ, List.getElem?_cons_zero, Region.wanted, if_true]
      refine Or.inl ?_
      clear hw hF
      simp only [Oper.wp, execOp]
      go_simp
      exact hK _ _ ⟨_, rfl, heap_alloc_new _ _, hb'.size⟩ ((Below.refl _ _).alloc (Nat.le_refl _) _) (fun h => by cases h)
    · simp only [wpOp, List.getElem?_toArray, List.getElem?_cons_succ, List.getElem?_cons_zero, Region.wanted, if_true]
      refine Or.inl ?_
      have e0 : av.tmps.getD 8 undef = .pointer (some ⟨w2.heap.size, 0, none⟩) := hF.2.2 8 (by decide)
      have e0e : av.eval (.tmp 8) = .pointer (some ⟨w2.heap.size, 0, none⟩) := e0
      have e0g : av.tmps[8]?.getD undef = .pointer (some ⟨w2.heap.size, 0, none⟩) := by have := e0; simp only [Array.getD_eq_getD_getElem?] at this; exact this
      clear hw hF
      simp only [Oper.wp, execOp]
      try simp only [e0e]
      go_simp
      exact hK _ x (by first | rfl | (simp only [Nat.add_zero]; done) | (congr 1; omega)) (Below.refl _ _) (fun h => by cases h)
    · simp only [wpOp, List.getElem?_toArray, List.getElem?_cons_succ, List.getElem?_cons_zero, Region.wanted, if_true]
      refine Or.inl ?_
      have e0 : av.tmps.getD 20 undef = .pointer (some ⟨w2.heap.size, 2, none⟩) := (hw 3 (by kernel_rfl))
      have e0e : av.eval (.tmp 20) = .pointer (some ⟨w2.heap.size, 2, none⟩) := e0
      have e0g : av.tmps[20]?.getD undef = .pointer (some ⟨w2.heap.size, 2, none⟩) := by have := e0; simp only [Array.getD_eq_getD_getElem?] at this; exact this
      have f2 := FK2.out x hb'
      clear hw hF
      simp only [Oper.wp, execOp]
      try simp only [e0e]
      go_simp
      exact hK _ x (by first | rfl | (simp only [Nat.add_zero]; done) | (congr 1; omega)) (Below.refl _ _) (fun h => by cases h)
    · simp only [wpOp, List.getElem?_toArray, List.getElem?_cons_succ, List.getElem?_cons_zero, Region.wanted, if_true]
      refine Or.inl ?_
      obtain ⟨gg0, e0, hg0, hn0⟩ := (hw 2 (by kernel_rfl))
      have e0e : av.eval (.tmp 19) = .slice (some ⟨gg0, 0, none⟩) 1 1 := e0
      have e0g : av.tmps[19]?.getD undef = .slice (some ⟨gg0, 0, none⟩) 1 1 := by have := e0; simp only [Array.getD_eq_getD_getElem?] at this; exact this
      have e1 : av.tmps.getD 21 undef = .slice B1 ds.length d1 := (hw 4 (by kernel_rfl))
      have e1e : av.eval (.tmp 21) = .slice B1 ds.length d1 := e1
      have e1g : av.tmps[21]?.getD undef = .slice B1 ds.length d1 := by have := e1; simp only [Array.getD_eq_getD_getElem?] at this; exact this
      clear hw hF
      refine wp_append_full (.tmp 19) (.tmp 21) rfl gg0 ds.length d1 500 ds B1 e0 e1 hg0 (VN.out.2.below hb') rfl (by omega) (fun A0 c0 x' hr hx hf => ?_)
      exact hK _ x' ⟨A0, c0, rfl, hr, fun b_ o_ e_ => by have := hf b_ o_ e_; omega⟩ hx (fun h => by cases h)
    · simp only [wpOp, List.getElem?_toArray, List.getElem?_cons_succ, List.getElem?_cons_zero, Region.wanted, if_true]
      refine Or.inl ?_
      have e0 : av.tmps.getD 18 undef = .slice A1 ks.length c1 := (hw 1 (by kernel_rfl))
      have e0e : av.eval (.tmp 18) = .slice A1 ks.length c1 := e0
      have e0g : av.tmps[18]?.getD undef = .slice A1 ks.length c1 := by have := e0; simp only [Array.getD_eq_getD_getElem?] at this; exact this
      obtain ⟨A01, c01, e1, hr1, hf1⟩ := (hw 5 (by kernel_rfl))
      have e1e : av.eval (.tmp 22) = .slice A01 (1 + ds.length) c01 := e1
      have e1g : av.tmps[22]?.getD undef = .slice A01 (1 + ds.length) c01 := by have := e1; simp only [Array.getD_eq_getD_getElem?] at this; exact this
      clear hw hF
      simp only [Oper.wp, execOp]
      try simp only [e0e, e1e]
      go_simp
      exact hK _ x ⟨A01, c01, rfl, hr1, hf1⟩ (Below.refl _ _) (fun h => by cases h)
  · intro av x hF hb' hR _
    have e0 : av.tmps.getD 17 undef = .pointer (some ⟨w2.heap.size, 1, none⟩) := hR 0 (by decide)
    have e1 : av.tmps.getD 18 undef = .slice A1 ks.length c1 := hR 1 (by decide)
    obtain ⟨gg2, e2, hg2, hn2⟩ := hR 2 (by decide)
    replace e2 : av.tmps.getD 19 undef = .slice (some ⟨gg2, 0, none⟩) 1 1 := e2
    have e3 : av.tmps.getD 20 undef = .pointer (some ⟨w2.heap.size, 2, none⟩) := hR 3 (by decide)
    have e4 : av.tmps.getD 21 undef = .slice B1 ds.length d1 := hR 4 (by decide)
    obtain ⟨A05, c05, e5, hr5, hf5⟩ := hR 5 (by decide)
    replace e5 : av.tmps.getD 22 undef = .slice A05 (1 + ds.length) c05 := e5
    obtain ⟨Ax6, cx6, e6, hrx6, hfx6⟩ := hR 6 (by decide)
    replace e6 : av.tmps.getD 23 undef = .agg #[.bool false, .slice A1 ks.length c1, .slice Ax6 (1 + ds.length) cx6] := e6
    rw [hF.fold (by kernel_rfl)]
    simp only [List.foldl_cons, List.foldl_nil, e0, e1, e2, e3, e4, e5, e6]
    simp only [Act.put, List.setIfInBounds_toArray, List.set_cons_zero, List.set_cons_succ]
    change wpOps _ _ _ [7] _ _
    simp only [wpOps_cons]
    clear e0 e1 e2 e3 e4 e5 e6 hR hF
    have NB := Lib.hid (row_on RN.out hb')
    have KB := Lib.hid hb'
    have XB := Lib.hid hrx6
    have XF := Lib.hid hfx6
    clear hb' hrx6 hfx6 hg2 hn2 hr5 hf5
    have p0 := row_c NB.out (i := 0) rfl
    have p1 := row_c NB.out (i := 1) rfl
    have p2 := row_c NB.out (i := 2) rfl
    have y0 := frozen_of_row _ _ 0 _ _ NB.out
    have y1 := frozen_of_row _ _ 1 _ _ NB.out
    have y2 := frozen_of_row _ _ 2 _ _ NB.out
    try rw [wpOps_cons]
    simp only [wpOp, List.getElem?_toArray, List.getElem?_cons_succ, List.getElem?_cons_zero, Region.wanted, if_true]
    refine Or.inl ?_
    simp only [Oper.wp, execOp]
    go_simp
    try simp only [wpOps]
    obtain ⟨U, hU⟩ : ∃ U : World, U = ((x.setCell ⟨w2.heap.size, 0, none⟩ (.bool false)).setCell ⟨w2.heap.size, 1, none⟩ (.slice A1 ks.length c1)).setCell ⟨w2.heap.size, 2, none⟩ (.slice Ax6 (1 + ds.length) cx6) := ⟨_, rfl⟩
    have RU := Lib.hid (show U.heap[w2.heap.size]? = some (.cells #[.bool false, .slice A1 ks.length c1, .slice Ax6 (1 + ds.length) cx6] 25 (0, 0)) by rw [hU]; have := row_set (i := 2) (row_set (i := 1) (row_set (i := 0) NB.out (.bool false)) (.slice A1 ks.length c1)) (.slice Ax6 (1 + ds.length) cx6); simpa using this)
    have KX := Lib.hid (show Below w2.heap.size w2 U by rw [hU]; exact ((((BV.out.mono ZX.out).trans (KB.out.mono ZY.out)).setCell (Nat.le_refl _) _).setCell (Nat.le_refl _) _).setCell (Nat.le_refl _) _)
    have VU := Lib.hid (show Rl sv U A1 c1 ks ∧ Rl nv U Ax6 cx6 (500 :: ds) by refine ⟨Rl.belowk V2.out.1 KX.out, ?_⟩; rw [hU]; exact ((XB.out.set XF.out (heap_lt RN.out) _ _).set XF.out (heap_lt RN.out) _ _).set XF.out (heap_lt RN.out) _ _)
    have KU := Lib.hid (show Below w.heap.size w U by rw [hU]; exact (((KN.out.trans (KB.out.mono KN.out.size)).setCell (by have := GN.out; simp; omega) _).setCell (by have := GN.out; simp; omega) _).setCell (by have := GN.out; simp; omega) _)
    obtain ⟨c9, hc9⟩ : ∃ c, c = cx6 := ⟨_, rfl⟩
    obtain ⟨A9, hA9⟩ : ∃ A, A = Ax6 := ⟨_, rfl⟩
    rw [← hc9, ← hA9] at RU VU hU ⊢
    rw [← hU]
    clear hU hc9 hA9 p0 p1 p2 y0 y1 y2 NB KB XB XF KX
    have CQ := Lib.hid (show ∀ (key : List UInt8) (V : World), Rl sv V A1 c1 ks → Calls Try.prog 22 #[.agg #[.bool false, .slice A1 ks.length c1, .slice A9 (1 + ds.length) c9], .string ⟨key.toArray⟩] V fun e w' => ∃ r : Int, e = .returned (.int .i64 r) ∧ (Srt ks → r = childI false key ks) ∧ Below V.heap.size V w' from fun key V hV => by
      have := child_any false A1 c1 ks A9 c9 (500 :: ds) key V hV (by omega)
      rw [show (500 :: ds).length = 1 + ds.length by simp; omega] at this
      exact this)
    have R5 := RU
    have K5 := KU
    have V5 := VU
    clear RU KU VU FK1 FK2 RN VN KN GN ZX ZY
    have f0 := row_c R5.out (i := 0) rfl
    have f1 := row_c R5.out (i := 1) rfl
    have f2 := row_c R5.out (i := 2) rfl
    go_wp2_with fail
    refine (CQ.out a _ V5.out.1).mono ?_
    rintro e x6 ⟨r5, rfl, hr, hb⟩
    rw [hr HSR.out, child_ub]
    have R6 := Lib.hid (row_on R5.out hb)
    have K6 := Lib.hid (K5.out.trans (hb.mono K5.out.size))
    have V6 := Lib.hid (And.intro (V5.out.1.below hb) (V5.out.2.below hb))
    clear hb hr f0 f1 f2
    have f0 := row_c R6.out (i := 0) rfl
    have f1 := row_c R6.out (i := 1) rfl
    have f2 := row_c R6.out (i := 2) rfl
    go_wp2_with fail
    refine (CQ.out b _ V6.out.1).mono ?_
    rintro e x7 ⟨r6, rfl, hr, hb⟩
    rw [hr HSR.out, child_ub]
    have R7 := Lib.hid (row_on R6.out hb)
    have K7 := Lib.hid (K6.out.trans (hb.mono K6.out.size))
    have V7 := Lib.hid (And.intro (V6.out.1.below hb) (V6.out.2.below hb))
    clear hb hr f0 f1 f2
    have UA := Lib.hid (ubN_le a ks)
    have SP := Lib.hid (fun m x (hx : ks[m]? = some x) => ub_spec (a := a) HSR.out hx)
    have MO := Lib.hid (fun h => ub_mono (a := a) (b := b) HSR.out h)
    generalize ubN a ks = ua at *
    generalize ubN b ks = ub at *
    have u0 : decide ((ua : Int) < 0) = false := decide_eq_false (by omega)
    have u1 : decide ((ks.length : Int) < (ua : Int)) = false := decide_eq_false (by have := UA.out; omega)
    have u2 : decide (ks.length < ua) = false := decide_eq_false (by have := UA.out; omega)
    have f1 := row_c R7.out (i := 1) rfl
    go_wp2_with fail
    clear f1 u0 u1 u2
    go_loopw [11] (fun i wr => ∃ k : Nat, k ≤ ks.length ∧ i = .int .i64 k ∧ Hid (Below x7.heap.size x7 wr)) (fun i _ => ks.length - (intOf i).toNat)
    case atStart => exact ⟨0, Nat.zero_le _, rfl, Lib.hid (Below.refl _ _)⟩
    case round =>
      obtain ⟨k, hk, rfl, hb⟩ := hrel
      have KW := Lib.hid (show Below w.heap.size w wr from K7.out.trans (hb.out.mono K7.out.size))
      have f1 := row_c (row_on R7.out hb.out) (i := 1) rfl
      by_cases hlt : k < ks.length
      · obtain ⟨x, hx⟩ := get_lt hlt
        obtain ⟨b0, off0, hA, _, g2⟩ := (V7.out.1.below hb.out).cell hx
        have SX := SP.out k x hx
        have HLT := Lib.hid hlt
        have LS := less_dec x a
        unfold sv at g2
        have k0 : (0 : Int) ≤ (k : Int) := by omega
        have k1 : (k : Int) < (ks.length : Int) := by omega
        have e3 : decide ((k : Int) < (ua : Int)) = decide (k < ua) := decide_eq_decide.2 (by omega)
        generalize hz1 : decide (x < a) = z1 at *
        generalize hz2 : (x == a) = z2 at *
        generalize hz3 : decide (k < ua) = z3 at *
        subst hA
        clear hx hlt hz1
        cases z1 <;> cases z2 <;> simp at SX <;> subst SX
        all_goals
          go_wp2
          go_roundw
          case rel => exact ⟨k + 1, HLT.out, by go_num, hb⟩
          case measure => simp [intOf]; have := HLT.out; omega
      · obtain rfl : k = ks.length := by omega
        have LS := less_dec a b
        have e3 : decide ((ua : Int) ≤ (ub : Int)) = decide (ua ≤ ub) := decide_eq_decide.2 (by omega)
        have AB := Lib.hid (show (!(decide (a < b) || (a == b)) || decide (ua ≤ ub)) = true by
          by_cases h1 : b < a
          · have h2 : ¬ a < b := fun h => lt_ir a (lt_tr h h1)
            have h3 : a ≠ b := fun h => lt_ir a (by rw [← h] at h1; exact h1)
            simp [h2, h3]
          · simp [MO.out h1])
        generalize decide (a < b) = z1 at *
        generalize hz2 : (a == b) = z2 at *
        generalize hz3 : decide (ua ≤ ub) = z3 at *
        have ABx := AB.out
        clear AB hlt
        cases z1 <;> cases z2 <;> cases z3 <;> simp at ABx
        all_goals
          go_wp2
          go_ret
          exact ⟨rfl, KW.out⟩
end Go.Proofs.Ytkbdcbcjbgbglaa
