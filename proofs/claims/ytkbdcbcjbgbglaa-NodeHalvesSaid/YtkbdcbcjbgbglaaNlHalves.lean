/-
  astrolabelaw21.NodeHalves: what is split is joined again as it was; keys stand on their sides of the one between.
-/
import Derived.Test.YtkbdcbcjbgbglaaNt
namespace Go.Proofs.Ytkbdcbcjbgbglaa
open Go.RowKit
set_option linter.unusedVariables false
set_option linter.unusedSimpArgs false
set_option maxHeartbeats 8000000 in
set_option maxRecDepth 100000 in
theorem halves_any (bn : Bool) (An Bn : Option Addr) (kn cn mn dn : Nat) (A0 : Option Addr) (c0 : Nat) (l : List (List UInt8)) (lf : Bool) (w : World) (h : Rl sv w A0 c0 l) :
    Calls Try.prog 8 #[.agg #[.bool bn, .slice An kn cn, .slice Bn mn dn], .slice A0 l.length c0, .bool lf] w fun e w' => e = .returned (.bool true) ∧ Below w.heap.size w w' := by
  have GF := Lib.hid (growM_facts l (min 12 l.length))
  have GA := Lib.hid (fun V (hV : Below w.heap.size w V) => grow_any A0 c0 l V (h.below hV))
  obtain ⟨p, hp⟩ : ∃ p, growM l (min 12 l.length) = p := ⟨_, rfl⟩
  rw [hp] at GA GF
  obtain ⟨ks, ds⟩ := p
  simp only at GA
  have lk : ks.length ≤ 12 := by have := GF.out.2.2.1; simp only at this; omega
  have LD := Lib.hid (show ds.length = ks.length from GF.out.2.1)
  have HSR := Lib.hid (show Srt ks from GF.out.1)
  have SM := Lib.hid (show ∀ es : List Int, es.length ≤ 13 → sizeN ks es < 4611686018427387904 from fun es he => by
    have h1 := sumN_le (ks := ks) (M := 16) (fun x hx => (GF.out.2.2.2.1 x hx).2)
    unfold sizeN
    omega)
  clear h hp GF
  obtain ⟨W, hW⟩ : ∃ W : World, W = w.alloc (.cells #[.bool bn, .slice An kn cn, .slice Bn mn dn] 25) := ⟨_, rfl⟩
  have RA := Lib.hid (show W.heap[w.heap.size]? = some (.cells #[.bool bn, .slice An kn cn, .slice Bn mn dn] 25 (0, 0)) by rw [hW]; exact heap_alloc_new _ _)
  have BA := Lib.hid (show Below w.heap.size w W by rw [hW]; exact bda _ _)
  have HW := Lib.hid hW
  clear hW
  go_enter Try.func8, Try.ntmps8
  go_wp2_with fail
  rw [← HW.out]
  clear HW
  refine (examples_any _).mono ?_
  rintro e w1 ⟨rfl, hb⟩
  have R1 := Lib.hid (row_on RA.out hb)
  have K1 := Lib.hid (BA.out.trans (hb.mono BA.out.size))
  clear hb RA BA
  go_wp2_with fail
  refine (GA.out _ K1.out).mono ?_
  rintro e w2 ⟨A1, c1, B1, d1, rfl, hk, hd, hb⟩
  have R2 := Lib.hid (row_on R1.out hb)
  have K2 := Lib.hid (K1.out.trans (hb.mono K1.out.size))
  have V2 := Lib.hid (And.intro hk hd)
  clear hb hk hd R1 K1 GA
  have p0 := row_c R2.out (i := 0) rfl
  have p1 := row_c R2.out (i := 1) rfl
  have p2 := row_c R2.out (i := 2) rfl
  have y0 := frozen_of_row _ _ 0 _ _ R2.out
  have y1 := frozen_of_row _ _ 1 _ _ R2.out
  have y2 := frozen_of_row _ _ 2 _ _ R2.out
  obtain ⟨V, hV⟩ : ∃ V : World, V = ((w2.setCell ⟨w.heap.size, 0, none⟩ (.bool true)).setCell ⟨w.heap.size, 1, none⟩ (.slice A1 ks.length c1)).setCell ⟨w.heap.size, 2, none⟩ (.slice B1 ds.length d1) := ⟨_, rfl⟩
  have RN := Lib.hid (show V.heap[w.heap.size]? = some (.cells #[.bool true, .slice A1 ks.length c1, .slice B1 ds.length d1] 25 (0, 0)) by rw [hV]; have := row_set (i := 2) (row_set (i := 1) (row_set (i := 0) R2.out (.bool true)) (.slice A1 ks.length c1)) (.slice B1 ds.length d1); simpa using this)
  have VN := Lib.hid (show Rl sv V A1 c1 ks ∧ Rl nv V B1 d1 ds by rw [hV]; exact ⟨rl_off3 V2.out.1 R2.out (fun z i h => off_s h) _ _ _, rl_off3 V2.out.2 R2.out (fun z i h => off_n h) _ _ _⟩)
  have KN := Lib.hid (show Below w.heap.size w V by rw [hV]; exact ((K2.out.setCell (by simp) _).setCell (by simp) _).setCell (by simp) _)
  have HV := Lib.hid hV
  clear hV R2 K2 V2
  cases lf
  · go_upto_region 6 with (fail)
    rw [← HV.out]
    clear HV p0 p1 p2 y0 y1 y2
    have FK1 := Lib.hid (fun x (K : Below V.heap.size V x) => row_c (row_on RN.out K) (i := 1) rfl)
    have FK2 := Lib.hid (fun x (K : Below V.heap.size V x) => row_c (row_on RN.out K) (i := 2) rfl)
    refine wp_operands (W := V) rfl 7 [24, 25, 26, 27, 28, 29, 30] (fun i u x => match i with | 0 => u = .pointer (some ⟨w.heap.size, 1, none⟩) | 1 => u = .slice A1 ks.length c1 | 2 => ∃ g, u = .slice (some ⟨g, 0, none⟩) 1 1 ∧ x.heap[g]? = some (.cells #[.int .i64 500] 3 (0, 0)) ∧ V.heap.size ≤ g | 3 => u = .pointer (some ⟨w.heap.size, 2, none⟩) | 4 => u = .slice B1 ds.length d1 | 5 => ∃ A0 c0, u = .slice A0 (1 + ds.length) c0 ∧ Rl nv x A0 c0 (500 :: ds) | 6 => ∃ A0 c0, u = .agg #[.bool false, .slice A1 ks.length c1, .slice A0 (1 + ds.length) c0] ∧ Rl nv x A0 c0 (500 :: ds) | _ => True) (fun _ => false)
      (by decide) rfl (by kernel_rfl) (by kernel_rfl) (by decide) (by kernel_rfl) ?_ (fun _ _ _ h => by cases h) ?_ ?_
    · intro i u x x' hi hR hb'
      have hi' : i = 0 ∨ i = 1 ∨ i = 2 ∨ i = 3 ∨ i = 4 ∨ i = 5 ∨ i = 6 := by omega
      rcases hi' with rfl | rfl | rfl | rfl | rfl | rfl | rfl
      · exact hR
      · exact hR
      · obtain ⟨g, e, hg, hn⟩ := hR; exact ⟨g, e, (hb'.block g (heap_lt hg)).trans hg, hn⟩
      · exact hR
      · exact hR
      · obtain ⟨A0, c0, e, hr⟩ := hR; exact ⟨A0, c0, e, hr.below hb'⟩
      · obtain ⟨A0, c0, e, hr⟩ := hR; exact ⟨A0, c0, e, hr.below hb'⟩
    · intro i av x K hi hF hb' hw hK
      have hi' : i = 0 ∨ i = 1 ∨ i = 2 ∨ i = 3 ∨ i = 4 ∨ i = 5 ∨ i = 6 := by omega
      rcases hi' with rfl | rfl | rfl | rfl | rfl | rfl | rfl
      · simp only [wpOp, List.getElem?_toArray, List.getElem?_cons_zero, Region.wanted, if_true]
        refine Or.inl ?_
        have e0 : av.tmps.getD 3 undef = .pointer (some ⟨w.heap.size, 0, none⟩) := hF.2.2 3 (by decide)
        have e0e : av.eval (.tmp 3) = .pointer (some ⟨w.heap.size, 0, none⟩) := e0
        have e0g : av.tmps[3]?.getD undef = .pointer (some ⟨w.heap.size, 0, none⟩) := by have := e0; simp only [Array.getD_eq_getD_getElem?] at this; exact this
        clear hw hF
        simp only [Oper.wp, execOp]
        try simp only [e0e]
        go_simp
        exact hK _ x (by first | rfl | (simp only [Nat.add_zero]; done) | (congr 1; omega)) (Below.refl _ _) (fun h => by cases h)
      · simp only [wpOp, List.getElem?_toArray, List.getElem?_cons_succ, List.getElem?_cons_zero, Region.wanted, if_true]
        refine Or.inl ?_
        have e0 : av.tmps.getD 24 undef = .pointer (some ⟨w.heap.size, 1, none⟩) := (hw 0 (by kernel_rfl))
        have e0e : av.eval (.tmp 24) = .pointer (some ⟨w.heap.size, 1, none⟩) := e0
        have e0g : av.tmps[24]?.getD undef = .pointer (some ⟨w.heap.size, 1, none⟩) := by have := e0; simp only [Array.getD_eq_getD_getElem?] at this; exact this
        have f1 := FK1.out x hb'
        clear hw hF
        simp only [Oper.wp, execOp]
        try simp only [e0e]
        go_simp
        exact hK _ x (by first | rfl | (simp only [Nat.add_zero]; done) | (congr 1; omega)) (Below.refl _ _) (fun h => by cases h)
      · simp only [wpOp, List.getElem?_toArray, List.getElem?_cons_succ, List.getElem?_cons_zero, Region.wanted, if_true]
        refine Or.inl ?_
        clear hw hF
        simp only [Oper.wp, execOp]
        go_simp
        exact hK _ _ ⟨_, rfl, heap_alloc_new _ _, hb'.size⟩ ((Below.refl _ _).alloc (Nat.le_refl _) _) (fun h => by cases h)
      · simp only [wpOp, List.getElem?_toArray, List.getElem?_cons_succ, List.getElem?_cons_zero, Region.wanted, if_true]
        refine Or.inl ?_
        have e0 : av.tmps.getD 3 undef = .pointer (some ⟨w.heap.size, 0, none⟩) := hF.2.2 3 (by decide)
        have e0e : av.eval (.tmp 3) = .pointer (some ⟨w.heap.size, 0, none⟩) := e0
        have e0g : av.tmps[3]?.getD undef = .pointer (some ⟨w.heap.size, 0, none⟩) := by have := e0; simp only [Array.getD_eq_getD_getElem?] at this; exact this
        clear hw hF
        simp only [Oper.wp, execOp]
        try simp only [e0e]
        go_simp
        exact hK _ x (by first | rfl | (simp only [Nat.add_zero]; done) | (congr 1; omega)) (Below.refl _ _) (fun h => by cases h)
      · simp only [wpOp, List.getElem?_toArray, List.getElem?_cons_succ, List.getElem?_cons_zero, Region.wanted, if_true]
        refine Or.inl ?_
        have e0 : av.tmps.getD 27 undef = .pointer (some ⟨w.heap.size, 2, none⟩) := (hw 3 (by kernel_rfl))
        have e0e : av.eval (.tmp 27) = .pointer (some ⟨w.heap.size, 2, none⟩) := e0
        have e0g : av.tmps[27]?.getD undef = .pointer (some ⟨w.heap.size, 2, none⟩) := by have := e0; simp only [Array.getD_eq_getD_getElem?] at this; exact this
        have f2 := FK2.out x hb'
        clear hw hF
        simp only [Oper.wp, execOp]
        try simp only [e0e]
        go_simp
        exact hK _ x (by first | rfl | (simp only [Nat.add_zero]; done) | (congr 1; omega)) (Below.refl _ _) (fun h => by cases h)
      · simp only [wpOp, List.getElem?_toArray, List.getElem?_cons_succ, List.getElem?_cons_zero, Region.wanted, if_true]
        refine Or.inl ?_
        obtain ⟨gg0, e0, hg0, hn0⟩ := (hw 2 (by kernel_rfl))
        have e0e : av.eval (.tmp 26) = .slice (some ⟨gg0, 0, none⟩) 1 1 := e0
        have e0g : av.tmps[26]?.getD undef = .slice (some ⟨gg0, 0, none⟩) 1 1 := by have := e0; simp only [Array.getD_eq_getD_getElem?] at this; exact this
        have e1 : av.tmps.getD 28 undef = .slice B1 ds.length d1 := (hw 4 (by kernel_rfl))
        have e1e : av.eval (.tmp 28) = .slice B1 ds.length d1 := e1
        have e1g : av.tmps[28]?.getD undef = .slice B1 ds.length d1 := by have := e1; simp only [Array.getD_eq_getD_getElem?] at this; exact this
        clear hw hF
        refine wp_append_full (.tmp 26) (.tmp 28) rfl gg0 ds.length d1 500 ds B1 e0 e1 hg0 (VN.out.2.below hb') rfl (by have := LD.out; omega) (fun A0 c0 x' hr hx hf => ?_)
        exact hK _ x' ⟨A0, c0, rfl, hr⟩ hx (fun h => by cases h)
      · simp only [wpOp, List.getElem?_toArray, List.getElem?_cons_succ, List.getElem?_cons_zero, Region.wanted, if_true]
        refine Or.inl ?_
        have e0 : av.tmps.getD 25 undef = .slice A1 ks.length c1 := (hw 1 (by kernel_rfl))
        have e0e : av.eval (.tmp 25) = .slice A1 ks.length c1 := e0
        have e0g : av.tmps[25]?.getD undef = .slice A1 ks.length c1 := by have := e0; simp only [Array.getD_eq_getD_getElem?] at this; exact this
        obtain ⟨A01, c01, e1, hr1⟩ := (hw 5 (by kernel_rfl))
        have e1e : av.eval (.tmp 29) = .slice A01 (1 + ds.length) c01 := e1
        have e1g : av.tmps[29]?.getD undef = .slice A01 (1 + ds.length) c01 := by have := e1; simp only [Array.getD_eq_getD_getElem?] at this; exact this
        clear hw hF
        simp only [Oper.wp, execOp]
        try simp only [e0e, e1e]
        go_simp
        exact hK _ x ⟨A01, c01, rfl, hr1⟩ (Below.refl _ _) (fun h => by cases h)
    · intro av x hF hb' hR _
      have e0 : av.tmps.getD 24 undef = .pointer (some ⟨w.heap.size, 1, none⟩) := hR 0 (by decide)
      have e1 : av.tmps.getD 25 undef = .slice A1 ks.length c1 := hR 1 (by decide)
      obtain ⟨gg2, e2, hg2, hn2⟩ := hR 2 (by decide)
      replace e2 : av.tmps.getD 26 undef = .slice (some ⟨gg2, 0, none⟩) 1 1 := e2
      have e3 : av.tmps.getD 27 undef = .pointer (some ⟨w.heap.size, 2, none⟩) := hR 3 (by decide)
      have e4 : av.tmps.getD 28 undef = .slice B1 ds.length d1 := hR 4 (by decide)
      obtain ⟨A05, c05, e5, hr5⟩ := hR 5 (by decide)
      replace e5 : av.tmps.getD 29 undef = .slice A05 (1 + ds.length) c05 := e5
      obtain ⟨Ax6, cx6, e6, hrx6⟩ := hR 6 (by decide)
      replace e6 : av.tmps.getD 30 undef = .agg #[.bool false, .slice A1 ks.length c1, .slice Ax6 (1 + ds.length) cx6] := e6
      rw [hF.fold (by kernel_rfl)]
      simp only [List.foldl_cons, List.foldl_nil, e0, e1, e2, e3, e4, e5, e6]
      simp only [Act.put, List.setIfInBounds_toArray, List.set_cons_zero, List.set_cons_succ]
      change wpOps _ _ _ [7] _ _
      simp only [wpOps_cons]
      clear e0 e1 e2 e3 e4 e5 e6 hR hF
      have NB := Lib.hid (row_on RN.out hb')
      have XV := Lib.hid (VN.out.1.below hb')
      have KB := Lib.hid (KN.out.trans (hb'.mono KN.out.size))
      have XB := Lib.hid hrx6
      clear hb' hrx6 hg2 hn2 hr5
      have p0 := row_c NB.out (i := 0) rfl
      have p1 := row_c NB.out (i := 1) rfl
      have p2 := row_c NB.out (i := 2) rfl
      have y0 := frozen_of_row _ _ 0 _ _ NB.out
      have y1 := frozen_of_row _ _ 1 _ _ NB.out
      have y2 := frozen_of_row _ _ 2 _ _ NB.out
      try rw [wpOps_cons]
      simp only [wpOp, List.getElem?_toArray, List.getElem?_cons_succ, List.getElem?_cons_zero, Region.wanted, if_true]
      refine Or.inl ?_
      simp only [Oper.wp, execOp]
      go_simp
      try simp only [wpOps]
      obtain ⟨U, hU⟩ : ∃ U : World, U = ((x.setCell ⟨w.heap.size, 0, none⟩ (.bool false)).setCell ⟨w.heap.size, 1, none⟩ (.slice A1 ks.length c1)).setCell ⟨w.heap.size, 2, none⟩ (.slice Ax6 (1 + ds.length) cx6) := ⟨_, rfl⟩
      have RU := Lib.hid (show U.heap[w.heap.size]? = some (.cells #[.bool false, .slice A1 ks.length c1, .slice Ax6 (1 + ds.length) cx6] 25 (0, 0)) by rw [hU]; have := row_set (i := 2) (row_set (i := 1) (row_set (i := 0) NB.out (.bool false)) (.slice A1 ks.length c1)) (.slice Ax6 (1 + ds.length) cx6); simpa using this)
      have VU := Lib.hid (show Rl sv U A1 c1 ks ∧ Rl nv U Ax6 cx6 (500 :: ds) by rw [hU]; exact ⟨rl_off3 XV.out NB.out (fun z i h => off_s h) _ _ _, rl_off3 XB.out NB.out (fun z i h => off_n h) _ _ _⟩)
      have KU := Lib.hid (show Below w.heap.size w U by rw [hU]; exact ((KB.out.setCell (by simp) _).setCell (by simp) _).setCell (by simp) _)
      obtain ⟨d9, hc9⟩ : ∃ c, c = cx6 := ⟨_, rfl⟩
      obtain ⟨B9, hA9⟩ : ∃ A, A = Ax6 := ⟨_, rfl⟩
      rw [← hc9, ← hA9] at RU VU hU ⊢
      rw [← hU]
      clear hU hc9 hA9 p0 p1 p2 y0 y1 y2 NB KB XB XV
      obtain ⟨es, hes⟩ : ∃ es : List Int, 500 :: ds = es := ⟨_, rfl⟩
      have hl2 : 1 + ds.length = es.length := by rw [← hes, List.length_cons]; omega
      rw [hes] at VU
      rw [hl2] at RU
      have ES := Lib.hid (show es.length = ks.length + 1 by have := LD.out; omega)
      clear hes hl2 RN VN KN FK1 FK2
      have LE := Lib.hid (show es.length = ks.length + 1 from ES.out)
      have SH : shapedB false ks es = true := by unfold shapedB; rw [LE.out]; simp
      have SZ := Lib.hid (fun V (hV : Rl sv V A1 c1 ks) => size_any false A1 c1 ks B9 d9 es V hV (by omega) (SM.out es (by have := LE.out; omega)))
      by_cases h4 : ks.length < 4
      · have SF := Lib.hid (fun V => split_few false A1 c1 ks B9 d9 es V (by omega) SH h4)
        have e1 : decide (ks.length < 4) = true := decide_eq_true h4
        have e2 : decide ((ks.length : Int) < 4) = true := decide_eq_true (by omega)
        clear SH
        have f0 := row_c RU.out (i := 0) rfl
        have f1 := row_c RU.out (i := 1) rfl
        have f2 := row_c RU.out (i := 2) rfl
        go_wp2_with fail
        refine (SF.out _).mono ?_
        rintro e w3 ⟨rfl, hb⟩
        have R3 := Lib.hid (row_on RU.out hb)
        have K3 := Lib.hid (KU.out.trans (hb.mono KU.out.size))
        clear hb f0 f1 f2 h4
        go_upto_region 9 with (fail)
        obtain ⟨X, hX⟩ : ∃ X : World, X = (w3.alloc (.cells #[.bool false, .slice none 0 0, .slice none 0 0] 25)).alloc (.cells #[.bool false, .slice none 0 0, .slice none 0 0] 25) := ⟨_, rfl⟩
        have BXx := Lib.hid (show Below w3.heap.size w3 X by rw [hX]; exact bon (bda _ _) (bda _ _))
        rw [← hX]
        clear hX
        have f1 := row_c (row_on R3.out BXx.out) (i := 1) rfl
        go_wp2
        go_ret
        exact ⟨rfl, K3.out.trans (BXx.out.mono K3.out.size)⟩
      · obtain ⟨mid, hm⟩ := get_lt (xs := ks) (k := hf ks) (by unfold hf; omega)
        have SF := Lib.hid (fun V h1 h2 => split_any false A1 c1 ks B9 d9 es mid V h1 h2 (by omega) SH (by omega) hm)
        have LT := Lib.hid (fun t x hx => half_lt (x := x) (i := t) HSR.out hm hx)
        have GE := Lib.hid (fun t x hx => have r := half_ge (lf := false) (x := x) (i := t) HSR.out hm hx; And.intro r.1 (r.2 rfl))
        have JK := Lib.hid (half_join (lf := false) hm)
        have hc : 1 ≤ cutN false ks ∧ cutN false ks < ks.length ∧ 1 ≤ hf ks ∧ hf ks ≤ ks.length := by unfold cutN hf; simp; omega
        have LA : (ks.take (hf ks)).length = hf ks := by rw [List.length_take]; omega
        have LB : (ks.drop (cutN false ks)).length = ks.length - cutN false ks := by rw [List.length_drop]
        have LC : (es.take (cutN false ks)).length ≤ 13 := by have := LE.out; rw [List.length_take]; omega
        have LF : (es.drop (cutN false ks)).length ≤ 13 := by have := LE.out; rw [List.length_drop]; omega
        have DK := Lib.hid (show es.take (cutN false ks) ++ es.drop (cutN false ks) = es from List.take_append_drop _ _)
        have q1 : 1 ≤ (ks.take (hf ks)).length ∧ (ks.take (hf ks)).length ≤ 12 := by omega
        have q2 : 1 ≤ (ks.drop (cutN false ks)).length ∧ (ks.drop (cutN false ks)).length ≤ 12 := by omega
        clear LA LB hc SH
        generalize ks.take (hf ks) = ka at *
        generalize ks.drop (cutN false ks) = kb at *
        generalize es.take (cutN false ks) = da at *
        generalize es.drop (cutN false ks) = db at *
        have Q := Lib.hid (And.intro q1 (And.intro q2 (And.intro LC LF)))
        have H4 := Lib.hid h4
        clear q1 q2 LC LF h4 hm
        have f0 := row_c RU.out (i := 0) rfl
        have f1 := row_c RU.out (i := 1) rfl
        have f2 := row_c RU.out (i := 2) rfl
        go_wp2_with fail
        refine (SF.out _ VU.out.1 VU.out.2).mono ?_
        rintro e w3 ⟨Aa, ca, Ba, pa, Ab, cb, Bb, pb, rfl, g1, g2, g3, g4, hb⟩
        have R3 := Lib.hid (row_on RU.out hb)
        have K3 := Lib.hid (KU.out.trans (hb.mono KU.out.size))
        have V3 := Lib.hid (And.intro (VU.out.1.below hb) (VU.out.2.below hb))
        have M3 := Lib.hid (And.intro g1 (And.intro g2 (And.intro g3 g4)))
        clear hb g1 g2 g3 g4 f0 f1 f2 RU KU VU SF
        go_upto_region 10 with (fail)
        obtain ⟨X, hX⟩ : ∃ X : World, X = (w3.alloc (.cells #[.bool false, .slice Aa ka.length ca, .slice Ba da.length pa] 25)).alloc (.cells #[.bool false, .slice Ab kb.length cb, .slice Bb db.length pb] 25) := ⟨_, rfl⟩
        have RP := Lib.hid (show X.heap[w3.heap.size]? = some (.cells #[.bool false, .slice Aa ka.length ca, .slice Ba da.length pa] 25 (0, 0)) by rw [hX]; exact row_on (heap_alloc_new w3 _) (bda _ _))
        have RQ := Lib.hid (show X.heap[w3.heap.size + 1]? = some (.cells #[.bool false, .slice Ab kb.length cb, .slice Bb db.length pb] 25 (0, 0)) by rw [hX]; have := heap_alloc_new (w3.alloc (.cells #[.bool false, .slice Aa ka.length ca, .slice Ba da.length pa] 25)) (.cells #[.bool false, .slice Ab kb.length cb, .slice Bb db.length pb] 25); simpa using this)
        have BXx := Lib.hid (show Below w3.heap.size w3 X by rw [hX]; exact bon (bda _ _) (bda _ _))
        rw [← hX]
        clear hX
        have R4 := Lib.hid (row_on R3.out BXx.out)
        have K4 := Lib.hid (K3.out.trans (BXx.out.mono K3.out.size))
        have V4 := Lib.hid (And.intro (V3.out.1.below BXx.out) (V3.out.2.below BXx.out))
        have M4 := Lib.hid (And.intro (M3.out.1.below BXx.out) (And.intro (M3.out.2.1.below BXx.out) (And.intro (M3.out.2.2.1.below BXx.out) (M3.out.2.2.2.below BXx.out))))
        clear R3 K3 V3 M3 BXx
        go_wp2_with fail
        go_loopw [12] (fun i wr => ∃ k : Nat, k ≤ ka.length ∧ i = .int .i64 k ∧ Hid (Below X.heap.size X wr)) (fun i _ => ka.length - (intOf i).toNat)
        case atStart => exact ⟨0, Nat.zero_le _, rfl, Lib.hid (Below.refl _ _)⟩
        case round =>
          obtain ⟨k, hk, rfl, hb⟩ := hrel
          have qa : ka.length ≤ 12 := Q.out.1.2
          have f1 := row_c (row_on RP.out hb.out) (i := 1) rfl
          by_cases hlt : k < ka.length
          · obtain ⟨x, hx⟩ := get_lt hlt
            obtain ⟨b0, off0, hA, _, g2⟩ := (M4.out.1.below hb.out).cell hx
            have HLT := Lib.hid hlt
            have LS := less_dec x mid
            have LS2 := less_dec mid x
            unfold sv at g2
            have z1f : decide (x < mid) = true := decide_eq_true (LT.out k x hx)
            have k0 : (0 : Int) ≤ (k : Int) := by omega
            have k1 : (k : Int) < (ka.length : Int) := by omega
            generalize hz1 : decide (x < mid) = z1 at *
            generalize hz2 : (x == mid) = z2 at *
            subst hA
            clear hx hlt hz1
            subst z1f
            cases z2
            all_goals
              go_wp2
            all_goals
              go_roundw
              case rel => exact ⟨k + 1, HLT.out, by go_num, hb⟩
              case measure => simp [intOf]; have := HLT.out; omega
          · obtain rfl : k = ka.length := by omega
            have R5 := Lib.hid (row_on R4.out hb.out)
            have RP5 := Lib.hid (row_on RP.out hb.out)
            have RQ5 := Lib.hid (row_on RQ.out hb.out)
            have K5 := Lib.hid (K4.out.trans (hb.out.mono K4.out.size))
            have V5 := Lib.hid (And.intro (V4.out.1.below hb.out) (V4.out.2.below hb.out))
            have M5 := Lib.hid (And.intro (M4.out.1.below hb.out) (And.intro (M4.out.2.1.below hb.out) (And.intro (M4.out.2.2.1.below hb.out) (M4.out.2.2.2.below hb.out))))
            clear hb R4 K4 V4 M4 RP RQ
            clear hk
            obtain ⟨X5, hX5⟩ : ∃ z, wr = z := ⟨_, rfl⟩
            rw [hX5] at R5 K5 V5 M5 RP5 RQ5 f1 ⊢
            clear hX5 hlt
            go_upto_region 15 with (fail)
            clear f1 qa
            go_wp2_with fail
            go_loopw [13] (fun i wr => ∃ k : Nat, k ≤ kb.length ∧ i = .int .i64 k ∧ Hid (Below X5.heap.size X5 wr)) (fun i _ => kb.length - (intOf i).toNat)
            case atStart => exact ⟨0, Nat.zero_le _, rfl, Lib.hid (Below.refl _ _)⟩
            case round =>
              obtain ⟨k, hk, rfl, hb⟩ := hrel
              have qa : kb.length ≤ 12 := Q.out.2.1.2
              have f1 := row_c (row_on RQ5.out hb.out) (i := 1) rfl
              by_cases hlt : k < kb.length
              · obtain ⟨x, hx⟩ := get_lt hlt
                obtain ⟨b0, off0, hA, _, g2⟩ := (M5.out.2.2.1.below hb.out).cell hx
                have HLT := Lib.hid hlt
                have LS := less_dec x mid
                have LS2 := less_dec mid x
                unfold sv at g2
                have SX := GE.out k x hx
                have z1f : decide (x < mid) = false := decide_eq_false SX.1
                have z2f : (x == mid) = false := by simpa using SX.2
                have k0 : (0 : Int) ≤ (k : Int) := by omega
                have k1 : (k : Int) < (kb.length : Int) := by omega
                generalize hz1 : decide (x < mid) = z1 at *
                generalize hz2 : (x == mid) = z2 at *
                subst hA
                clear hx hlt hz1
                subst z1f
                subst z2f
                clear SX
                all_goals
                  go_wp2
                all_goals
                  go_roundw
                  case rel => exact ⟨k + 1, HLT.out, by go_num, hb⟩
                  case measure => simp [intOf]; have := HLT.out; omega
              · obtain rfl : k = kb.length := by omega
                have R6 := Lib.hid (row_on R5.out hb.out)
                have RP6 := Lib.hid (row_on RP5.out hb.out)
                have RQ6 := Lib.hid (row_on RQ5.out hb.out)
                have K6 := Lib.hid (K5.out.trans (hb.out.mono K5.out.size))
                have V6 := Lib.hid (And.intro (V5.out.1.below hb.out) (V5.out.2.below hb.out))
                have M6 := Lib.hid (And.intro (M5.out.1.below hb.out) (And.intro (M5.out.2.1.below hb.out) (And.intro (M5.out.2.2.1.below hb.out) (M5.out.2.2.2.below hb.out))))
                clear hb R5 K5 V5 M5 RP5 RQ5
                obtain ⟨X6, hX6⟩ : ∃ z, wr = z := ⟨_, rfl⟩
                rw [hX6] at R6 K6 V6 M6 RP6 RQ6 f1 ⊢
                clear hX6 hlt
                go_upto_region 20 with (fail)
                clear f1 qa
                have JA := Lib.hid (join_any false Aa Ab Ba Bb ca cb pa pb ka kb da db mid _ M6.out.1 M6.out.2.1 M6.out.2.2.1 M6.out.2.2.2 (by have := Q.out; omega) (by have := Q.out; omega) (by have := Q.out; omega) (by have := Q.out; omega) (by rw [JK.out, DK.out]; exact SM.out es (by have := LE.out; omega)))
                rw [JK.out, DK.out] at JA
                have f0 := row_c RP6.out (i := 0) rfl
                have f1 := row_c RP6.out (i := 1) rfl
                have f2 := row_c RP6.out (i := 2) rfl
                have h0 := row_c RQ6.out (i := 0) rfl
                have h1 := row_c RQ6.out (i := 1) rfl
                have h2 := row_c RQ6.out (i := 2) rfl
                go_wp2_with fail
                refine JA.out.mono ?_
                rintro e w7 ⟨ho, hn, hx⟩
                by_cases hz : sizeN ks es ≤ 120
                · obtain ⟨A8, c8, B8, d8, rfl, g1, g2⟩ := ho hz
                  have HB := Lib.hid hz
                  have J7 := Lib.hid (And.intro g1 g2)
                  clear ho hn hz g1 g2 JA
                  have K7 := Lib.hid (K6.out.trans (hx.mono K6.out.size))
                  have R7 := Lib.hid (row_on R6.out hx)
                  have RP7 := Lib.hid (row_on RP6.out hx)
                  have RQ7 := Lib.hid (row_on RQ6.out hx)
                  have V7 := Lib.hid (And.intro (V6.out.1.below hx) (V6.out.2.below hx))
                  clear hx f0 f1 f2 h0 h1 h2 K6 R6 RP6 RQ6 V6 M6
                  go_upto_region 21 with (fail)
                  obtain ⟨Y, hY⟩ : ∃ Y : World, Y = w7.alloc (.cells #[.bool false, .slice A8 ks.length c8, .slice B8 es.length d8] 25) := ⟨_, rfl⟩
                  have RY := Lib.hid (show Y.heap[w7.heap.size]? = some (.cells #[.bool false, .slice A8 ks.length c8, .slice B8 es.length d8] 25 (0, 0)) by rw [hY]; exact heap_alloc_new _ _)
                  have BY := Lib.hid (show Below w7.heap.size w7 Y by rw [hY]; exact bda _ _)
                  rw [← hY]
                  clear hY
                  have K8 := Lib.hid (K7.out.trans (BY.out.mono K7.out.size))
                  have R8 := Lib.hid (row_on R7.out BY.out)
                  have RP8 := Lib.hid (row_on RP7.out BY.out)
                  have RQ8 := Lib.hid (row_on RQ7.out BY.out)
                  have V8 := Lib.hid (And.intro (V7.out.1.below BY.out) (V7.out.2.below BY.out))
                  have J8 := Lib.hid (And.intro (J7.out.1.below BY.out) (J7.out.2.below BY.out))
                  have FM := Lib.hid (fun x (K : Below Y.heap.size Y x) => (And.intro (row_c (row_on RY.out K) (i := 0) rfl) (And.intro (row_c (row_on RY.out K) (i := 1) rfl) (row_c (row_on RY.out K) (i := 2) rfl))))
                  have FN := Lib.hid (fun x (K : Below Y.heap.size Y x) => (And.intro (row_c (row_on R8.out K) (i := 0) rfl) (And.intro (row_c (row_on R8.out K) (i := 1) rfl) (row_c (row_on R8.out K) (i := 2) rfl))))
                  clear R7 RP7 RQ7 V7 K7 BY
                  refine wp_operands (W := Y) rfl 4 [95, 96, 97, 98] (fun i u x => match i with | 0 => u = .agg #[.bool false, .slice A8 ks.length c8, .slice B8 es.length d8] | 1 => u = .agg #[.bool false, .slice A1 ks.length c1, .slice B9 es.length d9] | 2 => u = .agg #[.bool false, .slice A1 ks.length c1, .slice B9 es.length d9] | 3 => u = .bool true | _ => True) (fun _ => false)
                    (by decide) rfl (by kernel_rfl) (by kernel_rfl) (by decide) (by kernel_rfl) ?_ (fun _ _ _ h => by cases h) ?_ ?_
                  · intro i u x x' hi hR hb'
                    have hi' : i = 0 ∨ i = 1 ∨ i = 2 ∨ i = 3 := by omega
                    rcases hi' with rfl | rfl | rfl | rfl
                    · exact hR
                    · exact hR
                    · exact hR
                    · exact hR
                  · intro i av x K hi hF hb' hw hK
                    have hi' : i = 0 ∨ i = 1 ∨ i = 2 ∨ i = 3 := by omega
                    rcases hi' with rfl | rfl | rfl | rfl
                    · simp only [wpOp, List.getElem?_toArray, List.getElem?_cons_zero, Region.wanted, if_true]
                      refine Or.inl ?_
                      have e0 : av.tmps.getD 14 undef = .pointer (some ⟨w7.heap.size, 0, none⟩) := hF.2.2 14 (by decide)
                      have e0e : av.eval (.tmp 14) = .pointer (some ⟨w7.heap.size, 0, none⟩) := e0
                      have e0g : av.tmps[14]?.getD undef = .pointer (some ⟨w7.heap.size, 0, none⟩) := by have := e0; simp only [Array.getD_eq_getD_getElem?] at this; exact this
                      obtain ⟨f0, f1, f2⟩ := FM.out x hb'
                      clear hw hF
                      simp only [Oper.wp, execOp]
                      try simp only [e0e]
                      go_simp
                      exact hK _ x (by first | rfl | (simp only [Nat.add_zero]; done) | (congr 1; omega)) (Below.refl _ _) (fun h => by cases h)
                    · simp only [wpOp, List.getElem?_toArray, List.getElem?_cons_succ, List.getElem?_cons_zero, Region.wanted, if_true]
                      refine Or.inl ?_
                      have e0 : av.tmps.getD 3 undef = .pointer (some ⟨w.heap.size, 0, none⟩) := hF.2.2 3 (by decide)
                      have e0e : av.eval (.tmp 3) = .pointer (some ⟨w.heap.size, 0, none⟩) := e0
                      have e0g : av.tmps[3]?.getD undef = .pointer (some ⟨w.heap.size, 0, none⟩) := by have := e0; simp only [Array.getD_eq_getD_getElem?] at this; exact this
                      obtain ⟨f0, f1, f2⟩ := FN.out x hb'
                      clear hw hF
                      simp only [Oper.wp, execOp]
                      try simp only [e0e]
                      go_simp
                      exact hK _ x (by first | rfl | (simp only [Nat.add_zero]; done) | (congr 1; omega)) (Below.refl _ _) (fun h => by cases h)
                    · simp only [wpOp, List.getElem?_toArray, List.getElem?_cons_succ, List.getElem?_cons_zero, Region.wanted, if_true]
                      refine Or.inl ?_
                      have e0 : av.tmps.getD 96 undef = .agg #[.bool false, .slice A1 ks.length c1, .slice B9 es.length d9] := (hw 1 (by kernel_rfl))
                      have e0e : av.eval (.tmp 96) = .agg #[.bool false, .slice A1 ks.length c1, .slice B9 es.length d9] := e0
                      have e0g : av.tmps[96]?.getD undef = .agg #[.bool false, .slice A1 ks.length c1, .slice B9 es.length d9] := by have := e0; simp only [Array.getD_eq_getD_getElem?] at this; exact this
                      clear hw hF
                      simp only [Oper.wp, execOp]
                      try simp only [e0e]
                      go_simp
                      refine (ref_any false A1 c1 ks B9 d9 es x (V8.out.1.below hb') (V8.out.2.below hb')).mono ?_
                      rintro e x' ⟨rfl, hx⟩
                      exact hK _ x' rfl hx (fun h => by cases h)
                    · simp only [wpOp, List.getElem?_toArray, List.getElem?_cons_succ, List.getElem?_cons_zero, Region.wanted, if_true]
                      refine Or.inl ?_
                      have e0 : av.tmps.getD 95 undef = .agg #[.bool false, .slice A8 ks.length c8, .slice B8 es.length d8] := (hw 0 (by kernel_rfl))
                      have e0e : av.eval (.tmp 95) = .agg #[.bool false, .slice A8 ks.length c8, .slice B8 es.length d8] := e0
                      have e0g : av.tmps[95]?.getD undef = .agg #[.bool false, .slice A8 ks.length c8, .slice B8 es.length d8] := by have := e0; simp only [Array.getD_eq_getD_getElem?] at this; exact this
                      have e1 : av.tmps.getD 97 undef = .agg #[.bool false, .slice A1 ks.length c1, .slice B9 es.length d9] := (hw 2 (by kernel_rfl))
                      have e1e : av.eval (.tmp 97) = .agg #[.bool false, .slice A1 ks.length c1, .slice B9 es.length d9] := e1
                      have e1g : av.tmps[97]?.getD undef = .agg #[.bool false, .slice A1 ks.length c1, .slice B9 es.length d9] := by have := e1; simp only [Array.getD_eq_getD_getElem?] at this; exact this
                      clear hw hF
                      simp only [Oper.wp, execOp]
                      try simp only [e0e, e1e]
                      go_simp
                      refine (nodes_any false A8 A1 B8 B9 c8 c1 d8 d9 ks es x (J8.out.1.below hb') (J8.out.2.below hb') (V8.out.1.below hb') (V8.out.2.below hb') (by omega) (by have := LE.out; omega)).mono ?_
                      rintro e x' ⟨rfl, hx⟩
                      exact hK _ x' rfl hx (fun h => by cases h)
                  · intro av x hF hb' hR _
                    have e0 : av.tmps.getD 95 undef = .agg #[.bool false, .slice A8 ks.length c8, .slice B8 es.length d8] := hR 0 (by decide)
                    have e1 : av.tmps.getD 96 undef = .agg #[.bool false, .slice A1 ks.length c1, .slice B9 es.length d9] := hR 1 (by decide)
                    have e2 : av.tmps.getD 97 undef = .agg #[.bool false, .slice A1 ks.length c1, .slice B9 es.length d9] := hR 2 (by decide)
                    have e3 : av.tmps.getD 98 undef = .bool true := hR 3 (by decide)
                    rw [hF.fold (by kernel_rfl)]
                    simp only [List.foldl_cons, List.foldl_nil, e0, e1, e2, e3]
                    simp only [Act.put, List.setIfInBounds_toArray, List.set_cons_zero, List.set_cons_succ]
                    change wpOps _ _ _ [4] _ _
                    simp only [wpOps_cons]
                    clear e0 e1 e2 e3 hR hF
                    have R9 := Lib.hid (row_on R8.out hb')
                    have RP9 := Lib.hid (row_on RP8.out hb')
                    have RQ9 := Lib.hid (row_on RQ8.out hb')
                    have K9 := Lib.hid (K8.out.trans (hb'.mono K8.out.size))
                    have V9 := Lib.hid (V8.out.1.below hb')
                    clear hb' FM FN R8 RP8 RQ8 K8 V8 RY
                    clear J8
                    try rw [wpOps_cons]
                    simp only [wpOp, List.getElem?_toArray, List.getElem?_cons_succ, List.getElem?_cons_zero, Region.wanted, if_true]
                    refine Or.inl ?_
                    simp only [Oper.wp, execOp]
                    go_simp
                    try simp only [wpOps]
                    have f0 := row_c R9.out (i := 0) rfl
                    have f1 := row_c R9.out (i := 1) rfl
                    have f2 := row_c R9.out (i := 2) rfl
                    have h1 := row_c RP9.out (i := 1) rfl
                    have j1 := row_c RQ9.out (i := 1) rfl
                    have n1 : decide (4 ≤ ks.length) = true := decide_eq_true (by have := H4.out; omega)
                    have n2 : decide ((4 : Int) ≤ (ks.length : Int)) = true := decide_eq_true (by have := H4.out; omega)
                    have n3 : decide (1 ≤ ka.length) = true := decide_eq_true Q.out.1.1
                    have n4 : decide ((1 : Int) ≤ (ka.length : Int)) = true := decide_eq_true (by have := Q.out.1.1; omega)
                    have n5 : decide (1 ≤ kb.length) = true := decide_eq_true Q.out.2.1.1
                    have n6 : decide ((1 : Int) ≤ (kb.length : Int)) = true := decide_eq_true (by have := Q.out.2.1.1; omega)
                    go_wp2_with fail
                    refine (SZ.out _ V9.out).mono ?_
                    rintro e w9 ⟨rfl, hx⟩
                    have K10 := Lib.hid (K9.out.trans (hx.mono K9.out.size))
                    clear hx f0 f1 f2 h1 j1 n1 n2 n3 n4 n5 n6
                    generalize sizeN ks es = SN at *
                    have m1 : decide (SN ≤ 120) = true := decide_eq_true HB.out
                    have m2 : decide ((SN : Int) ≤ 120) = true := decide_eq_true (by have := HB.out; omega)
                    go_wp2
                    go_ret
                    exact ⟨rfl, K10.out⟩
                · obtain rfl := hn hz
                  have HB := Lib.hid hz
                  clear ho hn hz JA
                  have K7 := Lib.hid (K6.out.trans (hx.mono K6.out.size))
                  have R7 := Lib.hid (row_on R6.out hx)
                  have RP7 := Lib.hid (row_on RP6.out hx)
                  have RQ7 := Lib.hid (row_on RQ6.out hx)
                  have V7 := Lib.hid (And.intro (V6.out.1.below hx) (V6.out.2.below hx))
                  clear hx f0 f1 f2 h0 h1 h2 K6 R6 RP6 RQ6 V6 M6
                  go_upto_region 21 with (fail)
                  obtain ⟨Y, hY⟩ : ∃ Y : World, Y = w7.alloc (.cells #[.bool false, .slice none 0 0, .slice none 0 0] 25) := ⟨_, rfl⟩
                  have RY := Lib.hid (show Y.heap[w7.heap.size]? = some (.cells #[.bool false, .slice none 0 0, .slice none 0 0] 25 (0, 0)) by rw [hY]; exact heap_alloc_new _ _)
                  have BY := Lib.hid (show Below w7.heap.size w7 Y by rw [hY]; exact bda _ _)
                  rw [← hY]
                  clear hY
                  have K8 := Lib.hid (K7.out.trans (BY.out.mono K7.out.size))
                  have R8 := Lib.hid (row_on R7.out BY.out)
                  have RP8 := Lib.hid (row_on RP7.out BY.out)
                  have RQ8 := Lib.hid (row_on RQ7.out BY.out)
                  have V8 := Lib.hid (And.intro (V7.out.1.below BY.out) (V7.out.2.below BY.out))
                  have FM := Lib.hid (fun x (K : Below Y.heap.size Y x) => (And.intro (row_c (row_on RY.out K) (i := 0) rfl) (And.intro (row_c (row_on RY.out K) (i := 1) rfl) (row_c (row_on RY.out K) (i := 2) rfl))))
                  have FN := Lib.hid (fun x (K : Below Y.heap.size Y x) => (And.intro (row_c (row_on R8.out K) (i := 0) rfl) (And.intro (row_c (row_on R8.out K) (i := 1) rfl) (row_c (row_on R8.out K) (i := 2) rfl))))
                  clear R7 RP7 RQ7 V7 K7 BY
                  refine wp_operands (W := Y) rfl 4 [95, 96, 97, 98] (fun i u x => match i with | 0 => u = .agg #[.bool false, .slice none 0 0, .slice none 0 0] | 1 => u = .agg #[.bool false, .slice A1 ks.length c1, .slice B9 es.length d9] | 2 => u = .agg #[.bool false, .slice A1 ks.length c1, .slice B9 es.length d9] | 3 => u = .bool false | _ => True) (fun _ => false)
                    (by decide) rfl (by kernel_rfl) (by kernel_rfl) (by decide) (by kernel_rfl) ?_ (fun _ _ _ h => by cases h) ?_ ?_
                  · intro i u x x' hi hR hb'
                    have hi' : i = 0 ∨ i = 1 ∨ i = 2 ∨ i = 3 := by omega
                    rcases hi' with rfl | rfl | rfl | rfl
                    · exact hR
                    · exact hR
                    · exact hR
                    · exact hR
                  · intro i av x K hi hF hb' hw hK
                    have hi' : i = 0 ∨ i = 1 ∨ i = 2 ∨ i = 3 := by omega
                    rcases hi' with rfl | rfl | rfl | rfl
                    · simp only [wpOp, List.getElem?_toArray, List.getElem?_cons_zero, Region.wanted, if_true]
                      refine Or.inl ?_
                      have e0 : av.tmps.getD 14 undef = .pointer (some ⟨w7.heap.size, 0, none⟩) := hF.2.2 14 (by decide)
                      have e0e : av.eval (.tmp 14) = .pointer (some ⟨w7.heap.size, 0, none⟩) := e0
                      have e0g : av.tmps[14]?.getD undef = .pointer (some ⟨w7.heap.size, 0, none⟩) := by have := e0; simp only [Array.getD_eq_getD_getElem?] at this; exact this
                      obtain ⟨f0, f1, f2⟩ := FM.out x hb'
                      clear hw hF
                      simp only [Oper.wp, execOp]
                      try simp only [e0e]
                      go_simp
                      exact hK _ x (by first | rfl | (simp only [Nat.add_zero]; done) | (congr 1; omega)) (Below.refl _ _) (fun h => by cases h)
                    · simp only [wpOp, List.getElem?_toArray, List.getElem?_cons_succ, List.getElem?_cons_zero, Region.wanted, if_true]
                      refine Or.inl ?_
                      have e0 : av.tmps.getD 3 undef = .pointer (some ⟨w.heap.size, 0, none⟩) := hF.2.2 3 (by decide)
                      have e0e : av.eval (.tmp 3) = .pointer (some ⟨w.heap.size, 0, none⟩) := e0
                      have e0g : av.tmps[3]?.getD undef = .pointer (some ⟨w.heap.size, 0, none⟩) := by have := e0; simp only [Array.getD_eq_getD_getElem?] at this; exact this
                      obtain ⟨f0, f1, f2⟩ := FN.out x hb'
                      clear hw hF
                      simp only [Oper.wp, execOp]
                      try simp only [e0e]
                      go_simp
                      exact hK _ x (by first | rfl | (simp only [Nat.add_zero]; done) | (congr 1; omega)) (Below.refl _ _) (fun h => by cases h)
                    · simp only [wpOp, List.getElem?_toArray, List.getElem?_cons_succ, List.getElem?_cons_zero, Region.wanted, if_true]
                      refine Or.inl ?_
                      have e0 : av.tmps.getD 96 undef = .agg #[.bool false, .slice A1 ks.length c1, .slice B9 es.length d9] := (hw 1 (by kernel_rfl))
                      have e0e : av.eval (.tmp 96) = .agg #[.bool false, .slice A1 ks.length c1, .slice B9 es.length d9] := e0
                      have e0g : av.tmps[96]?.getD undef = .agg #[.bool false, .slice A1 ks.length c1, .slice B9 es.length d9] := by have := e0; simp only [Array.getD_eq_getD_getElem?] at this; exact this
                      clear hw hF
                      simp only [Oper.wp, execOp]
                      try simp only [e0e]
                      go_simp
                      refine (ref_any false A1 c1 ks B9 d9 es x (V8.out.1.below hb') (V8.out.2.below hb')).mono ?_
                      rintro e x' ⟨rfl, hx⟩
                      exact hK _ x' rfl hx (fun h => by cases h)
                    · simp only [wpOp, List.getElem?_toArray, List.getElem?_cons_succ, List.getElem?_cons_zero, Region.wanted, if_true]
                      refine Or.inl ?_
                      have e0 : av.tmps.getD 95 undef = .agg #[.bool false, .slice none 0 0, .slice none 0 0] := (hw 0 (by kernel_rfl))
                      have e0e : av.eval (.tmp 95) = .agg #[.bool false, .slice none 0 0, .slice none 0 0] := e0
                      have e0g : av.tmps[95]?.getD undef = .agg #[.bool false, .slice none 0 0, .slice none 0 0] := by have := e0; simp only [Array.getD_eq_getD_getElem?] at this; exact this
                      have e1 : av.tmps.getD 97 undef = .agg #[.bool false, .slice A1 ks.length c1, .slice B9 es.length d9] := (hw 2 (by kernel_rfl))
                      have e1e : av.eval (.tmp 97) = .agg #[.bool false, .slice A1 ks.length c1, .slice B9 es.length d9] := e1
                      have e1g : av.tmps[97]?.getD undef = .agg #[.bool false, .slice A1 ks.length c1, .slice B9 es.length d9] := by have := e1; simp only [Array.getD_eq_getD_getElem?] at this; exact this
                      clear hw hF
                      simp only [Oper.wp, execOp]
                      try simp only [e0e, e1e]
                      go_simp
                      refine (nodes_zero false A1 B9 c1 d9 ks es x (by have := H4.out; omega)).mono ?_
                      rintro e x' ⟨rfl, hx⟩
                      exact hK _ x' rfl hx (fun h => by cases h)
                  · intro av x hF hb' hR _
                    have e0 : av.tmps.getD 95 undef = .agg #[.bool false, .slice none 0 0, .slice none 0 0] := hR 0 (by decide)
                    have e1 : av.tmps.getD 96 undef = .agg #[.bool false, .slice A1 ks.length c1, .slice B9 es.length d9] := hR 1 (by decide)
                    have e2 : av.tmps.getD 97 undef = .agg #[.bool false, .slice A1 ks.length c1, .slice B9 es.length d9] := hR 2 (by decide)
                    have e3 : av.tmps.getD 98 undef = .bool false := hR 3 (by decide)
                    rw [hF.fold (by kernel_rfl)]
                    simp only [List.foldl_cons, List.foldl_nil, e0, e1, e2, e3]
                    simp only [Act.put, List.setIfInBounds_toArray, List.set_cons_zero, List.set_cons_succ]
                    change wpOps _ _ _ [4] _ _
                    simp only [wpOps_cons]
                    clear e0 e1 e2 e3 hR hF
                    have R9 := Lib.hid (row_on R8.out hb')
                    have RP9 := Lib.hid (row_on RP8.out hb')
                    have RQ9 := Lib.hid (row_on RQ8.out hb')
                    have K9 := Lib.hid (K8.out.trans (hb'.mono K8.out.size))
                    have V9 := Lib.hid (V8.out.1.below hb')
                    clear hb' FM FN R8 RP8 RQ8 K8 V8 RY
                    try rw [wpOps_cons]
                    simp only [wpOp, List.getElem?_toArray, List.getElem?_cons_succ, List.getElem?_cons_zero, Region.wanted, if_true]
                    refine Or.inl ?_
                    simp only [Oper.wp, execOp]
                    go_simp
                    try simp only [wpOps]
                    have f0 := row_c R9.out (i := 0) rfl
                    have f1 := row_c R9.out (i := 1) rfl
                    have f2 := row_c R9.out (i := 2) rfl
                    have h1 := row_c RP9.out (i := 1) rfl
                    have j1 := row_c RQ9.out (i := 1) rfl
                    have n1 : decide (4 ≤ ks.length) = true := decide_eq_true (by have := H4.out; omega)
                    have n2 : decide ((4 : Int) ≤ (ks.length : Int)) = true := decide_eq_true (by have := H4.out; omega)
                    have n3 : decide (1 ≤ ka.length) = true := decide_eq_true Q.out.1.1
                    have n4 : decide ((1 : Int) ≤ (ka.length : Int)) = true := decide_eq_true (by have := Q.out.1.1; omega)
                    have n5 : decide (1 ≤ kb.length) = true := decide_eq_true Q.out.2.1.1
                    have n6 : decide ((1 : Int) ≤ (kb.length : Int)) = true := decide_eq_true (by have := Q.out.2.1.1; omega)
                    go_wp2_with fail
                    refine (SZ.out _ V9.out).mono ?_
                    rintro e w9 ⟨rfl, hx⟩
                    have K10 := Lib.hid (K9.out.trans (hx.mono K9.out.size))
                    clear hx f0 f1 f2 h1 j1 n1 n2 n3 n4 n5 n6
                    generalize sizeN ks es = SN at *
                    have m1 : decide (SN ≤ 120) = false := decide_eq_false HB.out
                    have m2 : decide ((SN : Int) ≤ 120) = false := decide_eq_false (by have := HB.out; omega)
                    go_wp2
                    go_ret
                    exact ⟨rfl, K10.out⟩
  · go_upto_region 7 with (fail)
    rw [← HV.out]
    clear HV p0 p1 p2 y0 y1 y2
    obtain ⟨U, hU⟩ : ∃ U : World, V = U := ⟨_, rfl⟩
    rw [hU] at RN VN KN ⊢
    have RU := RN
    have KU := KN
    have VU := VN
    clear RN VN KN hU
    obtain ⟨B9, hB9⟩ : ∃ z, B1 = z := ⟨_, rfl⟩
    obtain ⟨d9, hd9⟩ : ∃ z, d1 = z := ⟨_, rfl⟩
    rw [hB9, hd9] at RU VU ⊢
    clear hB9 hd9
    obtain ⟨es, hes⟩ : ∃ es : List Int, ds = es := ⟨_, rfl⟩
    rw [hes] at RU VU LD ⊢
    have ES := LD
    clear hes LD
    have LE := Lib.hid (show es.length = ks.length from ES.out)
    have SH : shapedB true ks es = true := by unfold shapedB; rw [LE.out]; simp
    have SZ := Lib.hid (fun V (hV : Rl sv V A1 c1 ks) => size_any true A1 c1 ks B9 d9 es V hV (by omega) (SM.out es (by have := LE.out; omega)))
    by_cases h4 : ks.length < 4
    · have SF := Lib.hid (fun V => split_few true A1 c1 ks B9 d9 es V (by omega) SH h4)
      have e1 : decide (ks.length < 4) = true := decide_eq_true h4
      have e2 : decide ((ks.length : Int) < 4) = true := decide_eq_true (by omega)
      clear SH
      have f0 := row_c RU.out (i := 0) rfl
      have f1 := row_c RU.out (i := 1) rfl
      have f2 := row_c RU.out (i := 2) rfl
      go_wp2_with fail
      refine (SF.out _).mono ?_
      rintro e w3 ⟨rfl, hb⟩
      have R3 := Lib.hid (row_on RU.out hb)
      have K3 := Lib.hid (KU.out.trans (hb.mono KU.out.size))
      clear hb f0 f1 f2 h4
      go_upto_region 9 with (fail)
      obtain ⟨X, hX⟩ : ∃ X : World, X = (w3.alloc (.cells #[.bool false, .slice none 0 0, .slice none 0 0] 25)).alloc (.cells #[.bool false, .slice none 0 0, .slice none 0 0] 25) := ⟨_, rfl⟩
      have BXx := Lib.hid (show Below w3.heap.size w3 X by rw [hX]; exact bon (bda _ _) (bda _ _))
      rw [← hX]
      clear hX
      have f1 := row_c (row_on R3.out BXx.out) (i := 1) rfl
      go_wp2
      go_ret
      exact ⟨rfl, K3.out.trans (BXx.out.mono K3.out.size)⟩
    · obtain ⟨mid, hm⟩ := get_lt (xs := ks) (k := hf ks) (by unfold hf; omega)
      have SF := Lib.hid (fun V h1 h2 => split_any true A1 c1 ks B9 d9 es mid V h1 h2 (by omega) SH (by omega) hm)
      have LT := Lib.hid (fun t x hx => half_lt (x := x) (i := t) HSR.out hm hx)
      have GE := Lib.hid (fun t x hx => (half_ge (lf := true) (x := x) (i := t) HSR.out hm hx).1)
      have JK := Lib.hid (half_join (lf := true) hm)
      have hc : 1 ≤ cutN true ks ∧ cutN true ks < ks.length ∧ 1 ≤ hf ks ∧ hf ks ≤ ks.length := by unfold cutN hf; simp; omega
      have LA : (ks.take (hf ks)).length = hf ks := by rw [List.length_take]; omega
      have LB : (ks.drop (cutN true ks)).length = ks.length - cutN true ks := by rw [List.length_drop]
      have LC : (es.take (cutN true ks)).length ≤ 13 := by have := LE.out; rw [List.length_take]; omega
      have LF : (es.drop (cutN true ks)).length ≤ 13 := by have := LE.out; rw [List.length_drop]; omega
      have DK := Lib.hid (show es.take (cutN true ks) ++ es.drop (cutN true ks) = es from List.take_append_drop _ _)
      have q1 : 1 ≤ (ks.take (hf ks)).length ∧ (ks.take (hf ks)).length ≤ 12 := by omega
      have q2 : 1 ≤ (ks.drop (cutN true ks)).length ∧ (ks.drop (cutN true ks)).length ≤ 12 := by omega
      clear LA LB hc SH
      generalize ks.take (hf ks) = ka at *
      generalize ks.drop (cutN true ks) = kb at *
      generalize es.take (cutN true ks) = da at *
      generalize es.drop (cutN true ks) = db at *
      have Q := Lib.hid (And.intro q1 (And.intro q2 (And.intro LC LF)))
      have H4 := Lib.hid h4
      clear q1 q2 LC LF h4 hm
      have f0 := row_c RU.out (i := 0) rfl
      have f1 := row_c RU.out (i := 1) rfl
      have f2 := row_c RU.out (i := 2) rfl
      go_wp2_with fail
      refine (SF.out _ VU.out.1 VU.out.2).mono ?_
      rintro e w3 ⟨Aa, ca, Ba, pa, Ab, cb, Bb, pb, rfl, g1, g2, g3, g4, hb⟩
      have R3 := Lib.hid (row_on RU.out hb)
      have K3 := Lib.hid (KU.out.trans (hb.mono KU.out.size))
      have V3 := Lib.hid (And.intro (VU.out.1.below hb) (VU.out.2.below hb))
      have M3 := Lib.hid (And.intro g1 (And.intro g2 (And.intro g3 g4)))
      clear hb g1 g2 g3 g4 f0 f1 f2 RU KU VU SF
      go_upto_region 10 with (fail)
      obtain ⟨X, hX⟩ : ∃ X : World, X = (w3.alloc (.cells #[.bool true, .slice Aa ka.length ca, .slice Ba da.length pa] 25)).alloc (.cells #[.bool true, .slice Ab kb.length cb, .slice Bb db.length pb] 25) := ⟨_, rfl⟩
      have RP := Lib.hid (show X.heap[w3.heap.size]? = some (.cells #[.bool true, .slice Aa ka.length ca, .slice Ba da.length pa] 25 (0, 0)) by rw [hX]; exact row_on (heap_alloc_new w3 _) (bda _ _))
      have RQ := Lib.hid (show X.heap[w3.heap.size + 1]? = some (.cells #[.bool true, .slice Ab kb.length cb, .slice Bb db.length pb] 25 (0, 0)) by rw [hX]; have := heap_alloc_new (w3.alloc (.cells #[.bool true, .slice Aa ka.length ca, .slice Ba da.length pa] 25)) (.cells #[.bool true, .slice Ab kb.length cb, .slice Bb db.length pb] 25); simpa using this)
      have BXx := Lib.hid (show Below w3.heap.size w3 X by rw [hX]; exact bon (bda _ _) (bda _ _))
      rw [← hX]
      clear hX
      have R4 := Lib.hid (row_on R3.out BXx.out)
      have K4 := Lib.hid (K3.out.trans (BXx.out.mono K3.out.size))
      have V4 := Lib.hid (And.intro (V3.out.1.below BXx.out) (V3.out.2.below BXx.out))
      have M4 := Lib.hid (And.intro (M3.out.1.below BXx.out) (And.intro (M3.out.2.1.below BXx.out) (And.intro (M3.out.2.2.1.below BXx.out) (M3.out.2.2.2.below BXx.out))))
      clear R3 K3 V3 M3 BXx
      go_wp2_with fail
      go_loopw [12] (fun i wr => ∃ k : Nat, k ≤ ka.length ∧ i = .int .i64 k ∧ Hid (Below X.heap.size X wr)) (fun i _ => ka.length - (intOf i).toNat)
      case atStart => exact ⟨0, Nat.zero_le _, rfl, Lib.hid (Below.refl _ _)⟩
      case round =>
        obtain ⟨k, hk, rfl, hb⟩ := hrel
        have qa : ka.length ≤ 12 := Q.out.1.2
        have f1 := row_c (row_on RP.out hb.out) (i := 1) rfl
        by_cases hlt : k < ka.length
        · obtain ⟨x, hx⟩ := get_lt hlt
          obtain ⟨b0, off0, hA, _, g2⟩ := (M4.out.1.below hb.out).cell hx
          have HLT := Lib.hid hlt
          have LS := less_dec x mid
          have LS2 := less_dec mid x
          unfold sv at g2
          have z1f : decide (x < mid) = true := decide_eq_true (LT.out k x hx)
          have k0 : (0 : Int) ≤ (k : Int) := by omega
          have k1 : (k : Int) < (ka.length : Int) := by omega
          generalize hz1 : decide (x < mid) = z1 at *
          generalize hz2 : (x == mid) = z2 at *
          subst hA
          clear hx hlt hz1
          subst z1f
          cases z2
          all_goals
            go_wp2
          all_goals
            go_roundw
            case rel => exact ⟨k + 1, HLT.out, by go_num, hb⟩
            case measure => simp [intOf]; have := HLT.out; omega
        · obtain rfl : k = ka.length := by omega
          have R5 := Lib.hid (row_on R4.out hb.out)
          have RP5 := Lib.hid (row_on RP.out hb.out)
          have RQ5 := Lib.hid (row_on RQ.out hb.out)
          have K5 := Lib.hid (K4.out.trans (hb.out.mono K4.out.size))
          have V5 := Lib.hid (And.intro (V4.out.1.below hb.out) (V4.out.2.below hb.out))
          have M5 := Lib.hid (And.intro (M4.out.1.below hb.out) (And.intro (M4.out.2.1.below hb.out) (And.intro (M4.out.2.2.1.below hb.out) (M4.out.2.2.2.below hb.out))))
          clear hb R4 K4 V4 M4 RP RQ
          clear hk
          obtain ⟨X5, hX5⟩ : ∃ z, wr = z := ⟨_, rfl⟩
          rw [hX5] at R5 K5 V5 M5 RP5 RQ5 f1 ⊢
          clear hX5 hlt
          go_upto_region 15 with (fail)
          clear f1 qa
          go_wp2_with fail
          go_loopw [13] (fun i wr => ∃ k : Nat, k ≤ kb.length ∧ i = .int .i64 k ∧ Hid (Below X5.heap.size X5 wr)) (fun i _ => kb.length - (intOf i).toNat)
          case atStart => exact ⟨0, Nat.zero_le _, rfl, Lib.hid (Below.refl _ _)⟩
          case round =>
            obtain ⟨k, hk, rfl, hb⟩ := hrel
            have qa : kb.length ≤ 12 := Q.out.2.1.2
            have f1 := row_c (row_on RQ5.out hb.out) (i := 1) rfl
            by_cases hlt : k < kb.length
            · obtain ⟨x, hx⟩ := get_lt hlt
              obtain ⟨b0, off0, hA, _, g2⟩ := (M5.out.2.2.1.below hb.out).cell hx
              have HLT := Lib.hid hlt
              have LS := less_dec x mid
              have LS2 := less_dec mid x
              unfold sv at g2
              have SX := GE.out k x hx
              have z1f : decide (x < mid) = false := decide_eq_false SX
              have k0 : (0 : Int) ≤ (k : Int) := by omega
              have k1 : (k : Int) < (kb.length : Int) := by omega
              generalize hz1 : decide (x < mid) = z1 at *
              generalize hz2 : (x == mid) = z2 at *
              subst hA
              clear hx hlt hz1
              subst z1f
              cases z2
              clear SX
              all_goals
                go_wp2
              all_goals
                go_roundw
                case rel => exact ⟨k + 1, HLT.out, by go_num, hb⟩
                case measure => simp [intOf]; have := HLT.out; omega
            · obtain rfl : k = kb.length := by omega
              have R6 := Lib.hid (row_on R5.out hb.out)
              have RP6 := Lib.hid (row_on RP5.out hb.out)
              have RQ6 := Lib.hid (row_on RQ5.out hb.out)
              have K6 := Lib.hid (K5.out.trans (hb.out.mono K5.out.size))
              have V6 := Lib.hid (And.intro (V5.out.1.below hb.out) (V5.out.2.below hb.out))
              have M6 := Lib.hid (And.intro (M5.out.1.below hb.out) (And.intro (M5.out.2.1.below hb.out) (And.intro (M5.out.2.2.1.below hb.out) (M5.out.2.2.2.below hb.out))))
              clear hb R5 K5 V5 M5 RP5 RQ5
              obtain ⟨X6, hX6⟩ : ∃ z, wr = z := ⟨_, rfl⟩
              rw [hX6] at R6 K6 V6 M6 RP6 RQ6 f1 ⊢
              clear hX6 hlt
              go_upto_region 20 with (fail)
              clear f1 qa
              have JA := Lib.hid (join_any true Aa Ab Ba Bb ca cb pa pb ka kb da db mid _ M6.out.1 M6.out.2.1 M6.out.2.2.1 M6.out.2.2.2 (by have := Q.out; omega) (by have := Q.out; omega) (by have := Q.out; omega) (by have := Q.out; omega) (by rw [JK.out, DK.out]; exact SM.out es (by have := LE.out; omega)))
              rw [JK.out, DK.out] at JA
              have f0 := row_c RP6.out (i := 0) rfl
              have f1 := row_c RP6.out (i := 1) rfl
              have f2 := row_c RP6.out (i := 2) rfl
              have h0 := row_c RQ6.out (i := 0) rfl
              have h1 := row_c RQ6.out (i := 1) rfl
              have h2 := row_c RQ6.out (i := 2) rfl
              go_wp2_with fail
              refine JA.out.mono ?_
              rintro e w7 ⟨ho, hn, hx⟩
              by_cases hz : sizeN ks es ≤ 120
              · obtain ⟨A8, c8, B8, d8, rfl, g1, g2⟩ := ho hz
                have HB := Lib.hid hz
                have J7 := Lib.hid (And.intro g1 g2)
                clear ho hn hz g1 g2 JA
                have K7 := Lib.hid (K6.out.trans (hx.mono K6.out.size))
                have R7 := Lib.hid (row_on R6.out hx)
                have RP7 := Lib.hid (row_on RP6.out hx)
                have RQ7 := Lib.hid (row_on RQ6.out hx)
                have V7 := Lib.hid (And.intro (V6.out.1.below hx) (V6.out.2.below hx))
                clear hx f0 f1 f2 h0 h1 h2 K6 R6 RP6 RQ6 V6 M6
                go_upto_region 21 with (fail)
                obtain ⟨Y, hY⟩ : ∃ Y : World, Y = w7.alloc (.cells #[.bool true, .slice A8 ks.length c8, .slice B8 es.length d8] 25) := ⟨_, rfl⟩
                have RY := Lib.hid (show Y.heap[w7.heap.size]? = some (.cells #[.bool true, .slice A8 ks.length c8, .slice B8 es.length d8] 25 (0, 0)) by rw [hY]; exact heap_alloc_new _ _)
                have BY := Lib.hid (show Below w7.heap.size w7 Y by rw [hY]; exact bda _ _)
                rw [← hY]
                clear hY
                have K8 := Lib.hid (K7.out.trans (BY.out.mono K7.out.size))
                have R8 := Lib.hid (row_on R7.out BY.out)
                have RP8 := Lib.hid (row_on RP7.out BY.out)
                have RQ8 := Lib.hid (row_on RQ7.out BY.out)
                have V8 := Lib.hid (And.intro (V7.out.1.below BY.out) (V7.out.2.below BY.out))
                have J8 := Lib.hid (And.intro (J7.out.1.below BY.out) (J7.out.2.below BY.out))
                have FM := Lib.hid (fun x (K : Below Y.heap.size Y x) => (And.intro (row_c (row_on RY.out K) (i := 0) rfl) (And.intro (row_c (row_on RY.out K) (i := 1) rfl) (row_c (row_on RY.out K) (i := 2) rfl))))
                have FN := Lib.hid (fun x (K : Below Y.heap.size Y x) => (And.intro (row_c (row_on R8.out K) (i := 0) rfl) (And.intro (row_c (row_on R8.out K) (i := 1) rfl) (row_c (row_on R8.out K) (i := 2) rfl))))
                clear R7 RP7 RQ7 V7 K7 BY
                refine wp_operands (W := Y) rfl 4 [95, 96, 97, 98] (fun i u x => match i with | 0 => u = .agg #[.bool true, .slice A8 ks.length c8, .slice B8 es.length d8] | 1 => u = .agg #[.bool true, .slice A1 ks.length c1, .slice B9 es.length d9] | 2 => u = .agg #[.bool true, .slice A1 ks.length c1, .slice B9 es.length d9] | 3 => u = .bool true | _ => True) (fun _ => false)
                  (by decide) rfl (by kernel_rfl) (by kernel_rfl) (by decide) (by kernel_rfl) ?_ (fun _ _ _ h => by cases h) ?_ ?_
                · intro i u x x' hi hR hb'
                  have hi' : i = 0 ∨ i = 1 ∨ i = 2 ∨ i = 3 := by omega
                  rcases hi' with rfl | rfl | rfl | rfl
                  · exact hR
                  · exact hR
                  · exact hR
                  · exact hR
                · intro i av x K hi hF hb' hw hK
                  have hi' : i = 0 ∨ i = 1 ∨ i = 2 ∨ i = 3 := by omega
                  rcases hi' with rfl | rfl | rfl | rfl
                  · simp only [wpOp, List.getElem?_toArray, List.getElem?_cons_zero, Region.wanted, if_true]
                    refine Or.inl ?_
                    have e0 : av.tmps.getD 14 undef = .pointer (some ⟨w7.heap.size, 0, none⟩) := hF.2.2 14 (by decide)
                    have e0e : av.eval (.tmp 14) = .pointer (some ⟨w7.heap.size, 0, none⟩) := e0
                    have e0g : av.tmps[14]?.getD undef = .pointer (some ⟨w7.heap.size, 0, none⟩) := by have := e0; simp only [Array.getD_eq_getD_getElem?] at this; exact this
                    obtain ⟨f0, f1, f2⟩ := FM.out x hb'
                    clear hw hF
                    simp only [Oper.wp, execOp]
                    try simp only [e0e]
                    go_simp
                    exact hK _ x (by first | rfl | (simp only [Nat.add_zero]; done) | (congr 1; omega)) (Below.refl _ _) (fun h => by cases h)
                  · simp only [wpOp, List.getElem?_toArray, List.getElem?_cons_succ, List.getElem?_cons_zero, Region.wanted, if_true]
                    refine Or.inl ?_
                    have e0 : av.tmps.getD 3 undef = .pointer (some ⟨w.heap.size, 0, none⟩) := hF.2.2 3 (by decide)
                    have e0e : av.eval (.tmp 3) = .pointer (some ⟨w.heap.size, 0, none⟩) := e0
                    have e0g : av.tmps[3]?.getD undef = .pointer (some ⟨w.heap.size, 0, none⟩) := by have := e0; simp only [Array.getD_eq_getD_getElem?] at this; exact this
                    obtain ⟨f0, f1, f2⟩ := FN.out x hb'
                    clear hw hF
                    simp only [Oper.wp, execOp]
                    try simp only [e0e]
                    go_simp
                    exact hK _ x (by first | rfl | (simp only [Nat.add_zero]; done) | (congr 1; omega)) (Below.refl _ _) (fun h => by cases h)
                  · simp only [wpOp, List.getElem?_toArray, List.getElem?_cons_succ, List.getElem?_cons_zero, Region.wanted, if_true]
                    refine Or.inl ?_
                    have e0 : av.tmps.getD 96 undef = .agg #[.bool true, .slice A1 ks.length c1, .slice B9 es.length d9] := (hw 1 (by kernel_rfl))
                    have e0e : av.eval (.tmp 96) = .agg #[.bool true, .slice A1 ks.length c1, .slice B9 es.length d9] := e0
                    have e0g : av.tmps[96]?.getD undef = .agg #[.bool true, .slice A1 ks.length c1, .slice B9 es.length d9] := by have := e0; simp only [Array.getD_eq_getD_getElem?] at this; exact this
                    clear hw hF
                    simp only [Oper.wp, execOp]
                    try simp only [e0e]
                    go_simp
                    refine (ref_any true A1 c1 ks B9 d9 es x (V8.out.1.below hb') (V8.out.2.below hb')).mono ?_
                    rintro e x' ⟨rfl, hx⟩
                    exact hK _ x' rfl hx (fun h => by cases h)
                  · simp only [wpOp, List.getElem?_toArray, List.getElem?_cons_succ, List.getElem?_cons_zero, Region.wanted, if_true]
                    refine Or.inl ?_
                    have e0 : av.tmps.getD 95 undef = .agg #[.bool true, .slice A8 ks.length c8, .slice B8 es.length d8] := (hw 0 (by kernel_rfl))
                    have e0e : av.eval (.tmp 95) = .agg #[.bool true, .slice A8 ks.length c8, .slice B8 es.length d8] := e0
                    have e0g : av.tmps[95]?.getD undef = .agg #[.bool true, .slice A8 ks.length c8, .slice B8 es.length d8] := by have := e0; simp only [Array.getD_eq_getD_getElem?] at this; exact this
                    have e1 : av.tmps.getD 97 undef = .agg #[.bool true, .slice A1 ks.length c1, .slice B9 es.length d9] := (hw 2 (by kernel_rfl))
                    have e1e : av.eval (.tmp 97) = .agg #[.bool true, .slice A1 ks.length c1, .slice B9 es.length d9] := e1
                    have e1g : av.tmps[97]?.getD undef = .agg #[.bool true, .slice A1 ks.length c1, .slice B9 es.length d9] := by have := e1; simp only [Array.getD_eq_getD_getElem?] at this; exact this
                    clear hw hF
                    simp only [Oper.wp, execOp]
                    try simp only [e0e, e1e]
                    go_simp
                    refine (nodes_any true A8 A1 B8 B9 c8 c1 d8 d9 ks es x (J8.out.1.below hb') (J8.out.2.below hb') (V8.out.1.below hb') (V8.out.2.below hb') (by omega) (by have := LE.out; omega)).mono ?_
                    rintro e x' ⟨rfl, hx⟩
                    exact hK _ x' rfl hx (fun h => by cases h)
                · intro av x hF hb' hR _
                  have e0 : av.tmps.getD 95 undef = .agg #[.bool true, .slice A8 ks.length c8, .slice B8 es.length d8] := hR 0 (by decide)
                  have e1 : av.tmps.getD 96 undef = .agg #[.bool true, .slice A1 ks.length c1, .slice B9 es.length d9] := hR 1 (by decide)
                  have e2 : av.tmps.getD 97 undef = .agg #[.bool true, .slice A1 ks.length c1, .slice B9 es.length d9] := hR 2 (by decide)
                  have e3 : av.tmps.getD 98 undef = .bool true := hR 3 (by decide)
                  rw [hF.fold (by kernel_rfl)]
                  simp only [List.foldl_cons, List.foldl_nil, e0, e1, e2, e3]
                  simp only [Act.put, List.setIfInBounds_toArray, List.set_cons_zero, List.set_cons_succ]
                  change wpOps _ _ _ [4] _ _
                  simp only [wpOps_cons]
                  clear e0 e1 e2 e3 hR hF
                  have R9 := Lib.hid (row_on R8.out hb')
                  have RP9 := Lib.hid (row_on RP8.out hb')
                  have RQ9 := Lib.hid (row_on RQ8.out hb')
                  have K9 := Lib.hid (K8.out.trans (hb'.mono K8.out.size))
                  have V9 := Lib.hid (V8.out.1.below hb')
                  clear hb' FM FN R8 RP8 RQ8 K8 V8 RY
                  clear J8
                  try rw [wpOps_cons]
                  simp only [wpOp, List.getElem?_toArray, List.getElem?_cons_succ, List.getElem?_cons_zero, Region.wanted, if_true]
                  refine Or.inl ?_
                  simp only [Oper.wp, execOp]
                  go_simp
                  try simp only [wpOps]
                  have f0 := row_c R9.out (i := 0) rfl
                  have f1 := row_c R9.out (i := 1) rfl
                  have f2 := row_c R9.out (i := 2) rfl
                  have h1 := row_c RP9.out (i := 1) rfl
                  have j1 := row_c RQ9.out (i := 1) rfl
                  have n1 : decide (4 ≤ ks.length) = true := decide_eq_true (by have := H4.out; omega)
                  have n2 : decide ((4 : Int) ≤ (ks.length : Int)) = true := decide_eq_true (by have := H4.out; omega)
                  have n3 : decide (1 ≤ ka.length) = true := decide_eq_true Q.out.1.1
                  have n4 : decide ((1 : Int) ≤ (ka.length : Int)) = true := decide_eq_true (by have := Q.out.1.1; omega)
                  have n5 : decide (1 ≤ kb.length) = true := decide_eq_true Q.out.2.1.1
                  have n6 : decide ((1 : Int) ≤ (kb.length : Int)) = true := decide_eq_true (by have := Q.out.2.1.1; omega)
                  go_wp2_with fail
                  refine (SZ.out _ V9.out).mono ?_
                  rintro e w9 ⟨rfl, hx⟩
                  have K10 := Lib.hid (K9.out.trans (hx.mono K9.out.size))
                  clear hx f0 f1 f2 h1 j1 n1 n2 n3 n4 n5 n6
                  generalize sizeN ks es = SN at *
                  have m1 : decide (SN ≤ 120) = true := decide_eq_true HB.out
                  have m2 : decide ((SN : Int) ≤ 120) = true := decide_eq_true (by have := HB.out; omega)
                  go_wp2
                  go_ret
                  exact ⟨rfl, K10.out⟩
              · obtain rfl := hn hz
                have HB := Lib.hid hz
                clear ho hn hz JA
                have K7 := Lib.hid (K6.out.trans (hx.mono K6.out.size))
                have R7 := Lib.hid (row_on R6.out hx)
                have RP7 := Lib.hid (row_on RP6.out hx)
                have RQ7 := Lib.hid (row_on RQ6.out hx)
                have V7 := Lib.hid (And.intro (V6.out.1.below hx) (V6.out.2.below hx))
                clear hx f0 f1 f2 h0 h1 h2 K6 R6 RP6 RQ6 V6 M6
                go_upto_region 21 with (fail)
                obtain ⟨Y, hY⟩ : ∃ Y : World, Y = w7.alloc (.cells #[.bool false, .slice none 0 0, .slice none 0 0] 25) := ⟨_, rfl⟩
                have RY := Lib.hid (show Y.heap[w7.heap.size]? = some (.cells #[.bool false, .slice none 0 0, .slice none 0 0] 25 (0, 0)) by rw [hY]; exact heap_alloc_new _ _)
                have BY := Lib.hid (show Below w7.heap.size w7 Y by rw [hY]; exact bda _ _)
                rw [← hY]
                clear hY
                have K8 := Lib.hid (K7.out.trans (BY.out.mono K7.out.size))
                have R8 := Lib.hid (row_on R7.out BY.out)
                have RP8 := Lib.hid (row_on RP7.out BY.out)
                have RQ8 := Lib.hid (row_on RQ7.out BY.out)
                have V8 := Lib.hid (And.intro (V7.out.1.below BY.out) (V7.out.2.below BY.out))
                have FM := Lib.hid (fun x (K : Below Y.heap.size Y x) => (And.intro (row_c (row_on RY.out K) (i := 0) rfl) (And.intro (row_c (row_on RY.out K) (i := 1) rfl) (row_c (row_on RY.out K) (i := 2) rfl))))
                have FN := Lib.hid (fun x (K : Below Y.heap.size Y x) => (And.intro (row_c (row_on R8.out K) (i := 0) rfl) (And.intro (row_c (row_on R8.out K) (i := 1) rfl) (row_c (row_on R8.out K) (i := 2) rfl))))
                clear R7 RP7 RQ7 V7 K7 BY
                refine wp_operands (W := Y) rfl 4 [95, 96, 97, 98] (fun i u x => match i with | 0 => u = .agg #[.bool false, .slice none 0 0, .slice none 0 0] | 1 => u = .agg #[.bool true, .slice A1 ks.length c1, .slice B9 es.length d9] | 2 => u = .agg #[.bool true, .slice A1 ks.length c1, .slice B9 es.length d9] | 3 => u = .bool false | _ => True) (fun _ => false)
                  (by decide) rfl (by kernel_rfl) (by kernel_rfl) (by decide) (by kernel_rfl) ?_ (fun _ _ _ h => by cases h) ?_ ?_
                · intro i u x x' hi hR hb'
                  have hi' : i = 0 ∨ i = 1 ∨ i = 2 ∨ i = 3 := by omega
                  rcases hi' with rfl | rfl | rfl | rfl
                  · exact hR
                  · exact hR
                  · exact hR
                  · exact hR
                · intro i av x K hi hF hb' hw hK
                  have hi' : i = 0 ∨ i = 1 ∨ i = 2 ∨ i = 3 := by omega
                  rcases hi' with rfl | rfl | rfl | rfl
                  · simp only [wpOp, List.getElem?_toArray, List.getElem?_cons_zero, Region.wanted, if_true]
                    refine Or.inl ?_
                    have e0 : av.tmps.getD 14 undef = .pointer (some ⟨w7.heap.size, 0, none⟩) := hF.2.2 14 (by decide)
                    have e0e : av.eval (.tmp 14) = .pointer (some ⟨w7.heap.size, 0, none⟩) := e0
                    have e0g : av.tmps[14]?.getD undef = .pointer (some ⟨w7.heap.size, 0, none⟩) := by have := e0; simp only [Array.getD_eq_getD_getElem?] at this; exact this
                    obtain ⟨f0, f1, f2⟩ := FM.out x hb'
                    clear hw hF
                    simp only [Oper.wp, execOp]
                    try simp only [e0e]
                    go_simp
                    exact hK _ x (by first | rfl | (simp only [Nat.add_zero]; done) | (congr 1; omega)) (Below.refl _ _) (fun h => by cases h)
                  · simp only [wpOp, List.getElem?_toArray, List.getElem?_cons_succ, List.getElem?_cons_zero, Region.wanted, if_true]
                    refine Or.inl ?_
                    have e0 : av.tmps.getD 3 undef = .pointer (some ⟨w.heap.size, 0, none⟩) := hF.2.2 3 (by decide)
                    have e0e : av.eval (.tmp 3) = .pointer (some ⟨w.heap.size, 0, none⟩) := e0
                    have e0g : av.tmps[3]?.getD undef = .pointer (some ⟨w.heap.size, 0, none⟩) := by have := e0; simp only [Array.getD_eq_getD_getElem?] at this; exact this
                    obtain ⟨f0, f1, f2⟩ := FN.out x hb'
                    clear hw hF
                    simp only [Oper.wp, execOp]
                    try simp only [e0e]
                    go_simp
                    exact hK _ x (by first | rfl | (simp only [Nat.add_zero]; done) | (congr 1; omega)) (Below.refl _ _) (fun h => by cases h)
                  · simp only [wpOp, List.getElem?_toArray, List.getElem?_cons_succ, List.getElem?_cons_zero, Region.wanted, if_true]
                    refine Or.inl ?_
                    have e0 : av.tmps.getD 96 undef = .agg #[.bool true, .slice A1 ks.length c1, .slice B9 es.length d9] := (hw 1 (by kernel_rfl))
                    have e0e : av.eval (.tmp 96) = .agg #[.bool true, .slice A1 ks.length c1, .slice B9 es.length d9] := e0
                    have e0g : av.tmps[96]?.getD undef = .agg #[.bool true, .slice A1 ks.length c1, .slice B9 es.length d9] := by have := e0; simp only [Array.getD_eq_getD_getElem?] at this; exact this
                    clear hw hF
                    simp only [Oper.wp, execOp]
                    try simp only [e0e]
                    go_simp
                    refine (ref_any true A1 c1 ks B9 d9 es x (V8.out.1.below hb') (V8.out.2.below hb')).mono ?_
                    rintro e x' ⟨rfl, hx⟩
                    exact hK _ x' rfl hx (fun h => by cases h)
                  · simp only [wpOp, List.getElem?_toArray, List.getElem?_cons_succ, List.getElem?_cons_zero, Region.wanted, if_true]
                    refine Or.inl ?_
                    have e0 : av.tmps.getD 95 undef = .agg #[.bool false, .slice none 0 0, .slice none 0 0] := (hw 0 (by kernel_rfl))
                    have e0e : av.eval (.tmp 95) = .agg #[.bool false, .slice none 0 0, .slice none 0 0] := e0
                    have e0g : av.tmps[95]?.getD undef = .agg #[.bool false, .slice none 0 0, .slice none 0 0] := by have := e0; simp only [Array.getD_eq_getD_getElem?] at this; exact this
                    have e1 : av.tmps.getD 97 undef = .agg #[.bool true, .slice A1 ks.length c1, .slice B9 es.length d9] := (hw 2 (by kernel_rfl))
                    have e1e : av.eval (.tmp 97) = .agg #[.bool true, .slice A1 ks.length c1, .slice B9 es.length d9] := e1
                    have e1g : av.tmps[97]?.getD undef = .agg #[.bool true, .slice A1 ks.length c1, .slice B9 es.length d9] := by have := e1; simp only [Array.getD_eq_getD_getElem?] at this; exact this
                    clear hw hF
                    simp only [Oper.wp, execOp]
                    try simp only [e0e, e1e]
                    go_simp
                    refine (nodes_zero true A1 B9 c1 d9 ks es x (by have := H4.out; omega)).mono ?_
                    rintro e x' ⟨rfl, hx⟩
                    exact hK _ x' rfl hx (fun h => by cases h)
                · intro av x hF hb' hR _
                  have e0 : av.tmps.getD 95 undef = .agg #[.bool false, .slice none 0 0, .slice none 0 0] := hR 0 (by decide)
                  have e1 : av.tmps.getD 96 undef = .agg #[.bool true, .slice A1 ks.length c1, .slice B9 es.length d9] := hR 1 (by decide)
                  have e2 : av.tmps.getD 97 undef = .agg #[.bool true, .slice A1 ks.length c1, .slice B9 es.length d9] := hR 2 (by decide)
                  have e3 : av.tmps.getD 98 undef = .bool false := hR 3 (by decide)
                  rw [hF.fold (by kernel_rfl)]
                  simp only [List.foldl_cons, List.foldl_nil, e0, e1, e2, e3]
                  simp only [Act.put, List.setIfInBounds_toArray, List.set_cons_zero, List.set_cons_succ]
                  change wpOps _ _ _ [4] _ _
                  simp only [wpOps_cons]
                  clear e0 e1 e2 e3 hR hF
                  have R9 := Lib.hid (row_on R8.out hb')
                  have RP9 := Lib.hid (row_on RP8.out hb')
                  have RQ9 := Lib.hid (row_on RQ8.out hb')
                  have K9 := Lib.hid (K8.out.trans (hb'.mono K8.out.size))
                  have V9 := Lib.hid (V8.out.1.below hb')
                  clear hb' FM FN R8 RP8 RQ8 K8 V8 RY
                  try rw [wpOps_cons]
                  simp only [wpOp, List.getElem?_toArray, List.getElem?_cons_succ, List.getElem?_cons_zero, Region.wanted, if_true]
                  refine Or.inl ?_
                  simp only [Oper.wp, execOp]
                  go_simp
                  try simp only [wpOps]
                  have f0 := row_c R9.out (i := 0) rfl
                  have f1 := row_c R9.out (i := 1) rfl
                  have f2 := row_c R9.out (i := 2) rfl
                  have h1 := row_c RP9.out (i := 1) rfl
                  have j1 := row_c RQ9.out (i := 1) rfl
                  have n1 : decide (4 ≤ ks.length) = true := decide_eq_true (by have := H4.out; omega)
                  have n2 : decide ((4 : Int) ≤ (ks.length : Int)) = true := decide_eq_true (by have := H4.out; omega)
                  have n3 : decide (1 ≤ ka.length) = true := decide_eq_true Q.out.1.1
                  have n4 : decide ((1 : Int) ≤ (ka.length : Int)) = true := decide_eq_true (by have := Q.out.1.1; omega)
                  have n5 : decide (1 ≤ kb.length) = true := decide_eq_true Q.out.2.1.1
                  have n6 : decide ((1 : Int) ≤ (kb.length : Int)) = true := decide_eq_true (by have := Q.out.2.1.1; omega)
                  go_wp2_with fail
                  refine (SZ.out _ V9.out).mono ?_
                  rintro e w9 ⟨rfl, hx⟩
                  have K10 := Lib.hid (K9.out.trans (hx.mono K9.out.size))
                  clear hx f0 f1 f2 h1 j1 n1 n2 n3 n4 n5 n6
                  generalize sizeN ks es = SN at *
                  have m1 : decide (SN ≤ 120) = false := decide_eq_false HB.out
                  have m2 : decide ((SN : Int) ≤ 120) = false := decide_eq_false (by have := HB.out; omega)
                  go_wp2
                  go_ret
                  exact ⟨rfl, K10.out⟩
end Go.Proofs.Ytkbdcbcjbgbglaa
