/-
  astrolabelaw21.NodeTurns: each key's place, a key put, a kid taken out, are as the chapter says.
-/
import Derived.Test.YtkbdcbcjbgbglaaNx
namespace Go.Proofs.Ytkbdcbcjbgbglaa
open Go.RowKit
set_option linter.unusedVariables false
set_option linter.unusedSimpArgs false
theorem plain_shaped {lf : Bool} {ks : List (List UInt8)} {ds : List Int} (h : plainB lf ks ds = true) : shapedB lf ks ds = true := by
  unfold plainB at h
  simp only [Bool.and_eq_true] at h
  exact h.1.1
def outK (lf : Bool) (k : Int) (ks : List (List UInt8)) (ds : List Int) : List (List UInt8) := if k < 0 ∨ (ds.length : Int) ≤ k ∨ ks.length = 0 then ks else ks.take (if lf then k.toNat else k.toNat - 1) ++ [] ++ ks.drop ((if lf then k.toNat else k.toNat - 1) + 1)
def outD (k : Int) (ks : List (List UInt8)) (ds : List Int) : List Int := if k < 0 ∨ (ds.length : Int) ≤ k ∨ ks.length = 0 then ds else ds.take k.toNat ++ [] ++ ds.drop (k.toNat + 1)
theorem put_both (lf : Bool) (A : Option Addr) (c : Nat) (ks : List (List UInt8)) (B : Option Addr) (d : Nat) (ds : List Int) (key : List UInt8) (kid : Int) (w : World) (h : Rl sv w A c ks) (h2 : Rl nv w B d ds) (hl : ks.length ≤ 4000000) :
    Calls Try.prog 23 #[.agg #[.bool lf, .slice A ks.length c, .slice B ds.length d], sv key, .int .i64 kid] w fun e w' => ∃ l' A' c' Z B' d' Y, e = .returned (.agg #[.bool l', .slice A' Z.length c', .slice B' Y.length d']) ∧ Rl sv w' A' c' Z ∧ Rl nv w' B' d' Y ∧ (plainB lf ks ds = true → l' = lf ∧ Z = putK key ks ∧ Y = putD lf key ks kid ds) ∧ Below w.heap.size w w' := by
  cases hs : shapedB lf ks ds
  · refine (put_no lf A c ks B d ds key kid w hl hs).mono ?_
    rintro e w' ⟨rfl, hb⟩
    exact ⟨false, none, 0, [], none, 0, [], rfl, Rl.nil_ _ _ _ _, Rl.nil_ _ _ _ _, (fun hp => by rw [plain_shaped hp] at hs; cases hs), hb⟩
  · refine (put_any lf A c ks B d ds key kid w h h2 hl hs).mono ?_
    rintro e w' ⟨i, b, A', c', B', d', rfl, h3, h4, _, _, hi, hb, _, _⟩
    refine ⟨lf, A', c', _, B', d', _, rfl, h3, h4, fun hp => ?_, hb⟩
    obtain ⟨rfl, rfl⟩ := hi (plain_facts hp).2.2.2
    exact ⟨rfl, rfl, rfl⟩
theorem out_both (lf : Bool) (A : Option Addr) (c : Nat) (ks : List (List UInt8)) (B : Option Addr) (d : Nat) (ds : List Int) (k : Int) (w : World) (h : Rl sv w A c ks) (h2 : Rl nv w B d ds) (hl : ks.length ≤ 3999999) :
    Calls Try.prog 24 #[.agg #[.bool lf, .slice A ks.length c, .slice B ds.length d], .int .i64 k] w fun e w' => ∃ l' A' c' Z B' d' Y, e = .returned (.agg #[.bool l', .slice A' Z.length c', .slice B' Y.length d']) ∧ Rl sv w' A' c' Z ∧ Rl nv w' B' d' Y ∧ (plainB lf ks ds = true → l' = lf ∧ Z = outK lf k ks ds ∧ Y = outD k ks ds) ∧ Below w.heap.size w w' := by
  cases hs : shapedB lf ks ds
  · refine (out_no lf A c ks B d ds k w (by omega) hs).mono ?_
    rintro e w' ⟨rfl, hb⟩
    exact ⟨false, none, 0, [], none, 0, [], rfl, Rl.nil_ _ _ _ _, Rl.nil_ _ _ _ _, (fun hp => by rw [plain_shaped hp] at hs; cases hs), hb⟩
  · by_cases hk : k < 0 ∨ (ds.length : Int) ≤ k ∨ ks.length = 0
    · refine (out_id lf A c ks B d ds k w h h2 hl hs (by omega)).mono ?_
      rintro e w' ⟨A', c', B', d', rfl, h3, h4, hb⟩
      exact ⟨lf, A', c', _, B', d', _, rfl, h3, h4, fun _ => ⟨rfl, by unfold outK; rw [if_pos hk], by unfold outD; rw [if_pos hk]⟩, hb⟩
    · obtain ⟨k, rfl⟩ := Int.eq_ofNat_of_zero_le (show 0 ≤ k by omega)
      refine (out_any lf A c ks B d ds k w h h2 hl hs (by omega) (by omega)).mono ?_
      rintro e w' ⟨A', c', B', d', rfl, h3, h4, hb⟩
      exact ⟨lf, A', c', _, B', d', _, rfl, h3, h4, fun _ => ⟨rfl, by unfold outK; rw [if_neg hk]; rfl, by unfold outD; rw [if_neg hk]; rfl⟩, hb⟩
theorem rout_both (lf : Bool) (A : Option Addr) (c : Nat) (ks : List (List UInt8)) (B : Option Addr) (d : Nat) (ds : List Int) (k : Int) (w : World) (h : Rl sv w A c ks) (h2 : Rl nv w B d ds) (hl : ks.length ≤ 3999990) (hs : shapedB lf ks ds = true) :
    Calls Try.prog 27 #[.agg #[.bool lf, .slice A ks.length c, .slice B ds.length d], .int .i64 k] w fun e w' => ∃ A' c' B' d', e = .returned (.agg #[.bool lf, .slice A' (outK lf k ks ds).length c', .slice B' (outD k ks ds).length d']) ∧ Rl sv w' A' c' (outK lf k ks ds) ∧ Rl nv w' B' d' (outD k ks ds) ∧ Below w.heap.size w w' := by
  by_cases hk : k < 0 ∨ (ds.length : Int) ≤ k ∨ ks.length = 0
  · refine (rout_id lf A c ks B d ds k w h h2 (by omega)).mono ?_
    rintro e w' ⟨rfl, hb⟩
    have e1 : outK lf k ks ds = ks := by unfold outK; rw [if_pos hk]
    have e2 : outD k ks ds = ds := by unfold outD; rw [if_pos hk]
    rw [e1, e2]
    exact ⟨A, c, B, d, rfl, h.below hb, h2.below hb, hb⟩
  · obtain ⟨k, rfl⟩ := Int.eq_ofNat_of_zero_le (show 0 ≤ k by omega)
    have e1 : outK lf (k : Int) ks ds = ks.take (if lf then k else k - 1) ++ [] ++ ks.drop ((if lf then k else k - 1) + 1) := by unfold outK; rw [if_neg hk]; rfl
    have e2 : outD (k : Int) ks ds = ds.take k ++ [] ++ ds.drop (k + 1) := by unfold outD; rw [if_neg hk]; rfl
    refine (rout_any lf A c ks B d ds k w h h2 hl hs (by omega) (by omega)).mono ?_
    rintro e w' ⟨A', c', B', d', rfl, h3, h4, hb⟩
    rw [e1, e2]
    exact ⟨A', c', B', d', rfl, h3, h4, hb⟩
theorem outK_le (lf : Bool) (k : Int) (ks : List (List UInt8)) (ds : List Int) : (outK lf k ks ds).length ≤ ks.length + ks.length := by
  unfold outK
  split
  · omega
  · simp only [List.length_append, List.length_take, List.length_drop, List.length_nil]; omega
theorem outD_le (k : Int) (ks : List (List UInt8)) (ds : List Int) : (outD k ks ds).length ≤ ds.length + ds.length := by
  unfold outD
  split
  · omega
  · simp only [List.length_append, List.length_take, List.length_drop, List.length_nil]; omega
set_option maxHeartbeats 8000000 in
set_option maxRecDepth 100000 in
theorem turns_any (lf : Bool) (A : Option Addr) (c : Nat) (ks : List (List UInt8)) (B : Option Addr) (d : Nat) (ds : List Int) (key : List UInt8) (kid k : Int) (w : World) (h : Rl sv w A c ks) (h2 : Rl nv w B d ds) :
    Calls Try.prog 4 #[.agg #[.bool lf, .slice A ks.length c, .slice B ds.length d], sv key, .int .i64 kid, .int .i64 k] w fun e w' => e = .returned (.bool true) ∧ Below w.heap.size w w' := by
  obtain ⟨W, hW⟩ : ∃ W : World, W = w.alloc (.cells #[.bool lf, .slice A ks.length c, .slice B ds.length d] 25) := ⟨_, rfl⟩
  have RA := Lib.hid (show W.heap[w.heap.size]? = some (.cells #[.bool lf, .slice A ks.length c, .slice B ds.length d] 25 (0, 0)) by rw [hW]; exact heap_alloc_new _ _)
  have BA := Lib.hid (show Below w.heap.size w W by rw [hW]; exact bda _ _)
  have HW := Lib.hid hW
  have H := Lib.hid (And.intro h h2)
  clear hW h h2
  unfold sv
  go_enter Try.func4, Try.ntmps4
  go_wp2_with fail
  rw [← HW.out]
  clear HW
  refine (examples_any _).mono ?_
  rintro e w1 ⟨rfl, hb⟩
  have R1 := Lib.hid (row_on RA.out hb)
  have K1 := Lib.hid (BA.out.trans (hb.mono BA.out.size))
  have f0 := row_c R1.out (i := 0) rfl
  have f1 := row_c R1.out (i := 1) rfl
  have f2 := row_c R1.out (i := 2) rfl
  clear hb RA BA
  go_wp2_with fail
  refine (few_any lf A c ks B d ds _ (H.out.1.below K1.out) (H.out.2.below K1.out)).mono ?_
  rintro e w2 ⟨A1, c1, B1, d1, rfl, g1, g2, hb⟩
  have R2 := Lib.hid (row_on R1.out hb)
  have K2 := Lib.hid (K1.out.trans (hb.mono K1.out.size))
  have V2 := Lib.hid (And.intro g1 g2)
  have l1 : (ks.take 12).length ≤ 12 := by rw [List.length_take]; omega
  have l2 : (ds.take 13).length ≤ 13 := by rw [List.length_take]; omega
  have t1 : (ks.take 12).take 12 = ks.take 12 := by rw [List.take_take]; rfl
  have t2 : (ds.take 13).take 13 = ds.take 13 := by rw [List.take_take]; rfl
  generalize ks.take 12 = zs at *
  generalize ds.take 13 = ys at *
  have LL := Lib.hid (And.intro l1 (And.intro l2 (And.intro t1 t2)))
  clear hb g1 g2 f0 f1 f2 R1 K1 H l1 l2 t1 t2
  have p0 := row_c R2.out (i := 0) rfl
  have p1 := row_c R2.out (i := 1) rfl
  have p2 := row_c R2.out (i := 2) rfl
  have y0 := frozen_of_row _ _ 0 _ _ R2.out
  have y1 := frozen_of_row _ _ 1 _ _ R2.out
  have y2 := frozen_of_row _ _ 2 _ _ R2.out
  obtain ⟨V, hV⟩ : ∃ V : World, V = ((w2.setCell ⟨w.heap.size, 0, none⟩ (.bool lf)).setCell ⟨w.heap.size, 1, none⟩ (.slice A1 zs.length c1)).setCell ⟨w.heap.size, 2, none⟩ (.slice B1 ys.length d1) := ⟨_, rfl⟩
  have RN := Lib.hid (show V.heap[w.heap.size]? = some (.cells #[.bool lf, .slice A1 zs.length c1, .slice B1 ys.length d1] 25 (0, 0)) by rw [hV]; have := row_set (i := 2) (row_set (i := 1) (row_set (i := 0) R2.out (.bool lf)) (.slice A1 zs.length c1)) (.slice B1 ys.length d1); simpa using this)
  have VN := Lib.hid (show Rl sv V A1 c1 zs ∧ Rl nv V B1 d1 ys by rw [hV]; exact ⟨rl_off3 V2.out.1 R2.out (fun z i h => off_s h) _ _ _, rl_off3 V2.out.2 R2.out (fun z i h => off_n h) _ _ _⟩)
  have KN := Lib.hid (show Below w.heap.size w V by rw [hV]; exact ((K2.out.setCell (by simp) _).setCell (by simp) _).setCell (by simp) _)
  have HV := Lib.hid hV
  have f0 := row_c RN.out (i := 0) rfl
  have f1 := row_c RN.out (i := 1) rfl
  have f2 := row_c RN.out (i := 2) rfl
  rw [HV.out] at f0 f1 f2
  clear hV R2 K2 V2
  go_wp2_with fail
  rw [← HV.out]
  clear HV p0 p1 p2 y0 y1 y2 f0 f1 f2
  refine (few_any lf A1 c1 zs B1 d1 ys V VN.out.1 VN.out.2).mono ?_
  rw [LL.out.2.2.1, LL.out.2.2.2]
  rintro e w3 ⟨A2, c2, B2, d2, rfl, g1, g2, hb⟩
  have RNx := Lib.hid (row_on RN.out hb)
  have VNx := Lib.hid (And.intro (VN.out.1.below hb) (VN.out.2.below hb))
  have KNx := Lib.hid (KN.out.trans (hb.mono KN.out.size))
  clear RN VN KN
  have RN := RNx
  have VN := VNx
  have KN := KNx
  clear RNx VNx KNx
  have VO := Lib.hid (And.intro g1 g2)
  clear hb g1 g2
  obtain ⟨Vo, hV⟩ : ∃ V : World, V = w3.alloc (.cells #[.bool lf, .slice A2 zs.length c2, .slice B2 ys.length d2] 25) := ⟨_, rfl⟩
  obtain ⟨go, hgo⟩ : ∃ g : Nat, w3.heap.size = g := ⟨_, rfl⟩
  have RO := Lib.hid (show Vo.heap[go]? = some (.cells #[.bool lf, .slice A2 zs.length c2, .slice B2 ys.length d2] 25 (0, 0)) by rw [← hgo, hV]; exact heap_alloc_new _ _)
  have BV := Lib.hid (show Below w3.heap.size w3 Vo by rw [hV]; exact bda _ _)
  have RNx := Lib.hid (row_on RN.out BV.out)
  have VNx := Lib.hid (And.intro (VN.out.1.below BV.out) (VN.out.2.below BV.out))
  have VOx := Lib.hid (And.intro (VO.out.1.below BV.out) (VO.out.2.below BV.out))
  have KNx := Lib.hid (KN.out.trans (BV.out.mono KN.out.size))
  clear RN
  clear VN
  clear VO
  clear KN
  have RN := RNx
  have VN := VNx
  have VO := VOx
  have KN := KNx
  clear RNx
  clear VNx
  clear VOx
  clear KNx
  clear BV
  have f0 := row_c RN.out (i := 0) rfl
  have f1 := row_c RN.out (i := 1) rfl
  have f2 := row_c RN.out (i := 2) rfl
  rw [hV] at f0
  rw [hV] at f1
  rw [hV] at f2
  have HV := Lib.hid hV
  clear hV
  go_wp2_with fail
  rw [← HV.out]
  clear HV f0 f1 f2
  refine (child_any lf A1 c1 zs B1 d1 ys key Vo VN.out.1 (by have := LL.out.1; omega)).mono ?_
  rintro e w4 ⟨r, rfl, hr, hb⟩
  have HR := Lib.hid hr
  clear hr
  have RNx := Lib.hid (row_on RN.out hb)
  have ROx := Lib.hid (row_on RO.out hb)
  have VNx := Lib.hid (And.intro (VN.out.1.below hb) (VN.out.2.below hb))
  have VOx := Lib.hid (And.intro (VO.out.1.below hb) (VO.out.2.below hb))
  have KNx := Lib.hid (KN.out.trans (hb.mono KN.out.size))
  clear RN RO VN VO KN
  have RN := RNx
  have RO := ROx
  have VN := VNx
  have VO := VOx
  have KN := KNx
  clear RNx ROx VNx VOx KNx
  clear hb
  have f0 := row_c RN.out (i := 0) rfl
  have f1 := row_c RN.out (i := 1) rfl
  have f2 := row_c RN.out (i := 2) rfl
  go_wp2_with fail
  refine (put_both lf A1 c1 zs B1 d1 ys key kid w4 VN.out.1 VN.out.2 (by have := LL.out.1; omega)).mono ?_
  rintro e w5 ⟨lp, A3, c3, Zp, B3, d3, Yp, rfl, g1, g2, hp, hb⟩
  have HP := Lib.hid hp
  clear hp f0 f1 f2
  have RNx := Lib.hid (row_on RN.out hb)
  have ROx := Lib.hid (row_on RO.out hb)
  have VNx := Lib.hid (And.intro (VN.out.1.below hb) (VN.out.2.below hb))
  have VOx := Lib.hid (And.intro (VO.out.1.below hb) (VO.out.2.below hb))
  have KNx := Lib.hid (KN.out.trans (hb.mono KN.out.size))
  clear RN RO VN VO KN
  have RN := RNx
  have RO := ROx
  have VN := VNx
  have VO := VOx
  have KN := KNx
  clear RNx ROx VNx VOx KNx
  have VP := Lib.hid (And.intro g1 g2)
  clear hb g1 g2
  obtain ⟨Vp, hV⟩ : ∃ V : World, V = w5.alloc (.cells #[.bool lp, .slice A3 Zp.length c3, .slice B3 Yp.length d3] 25) := ⟨_, rfl⟩
  obtain ⟨gp, hgp⟩ : ∃ g : Nat, w5.heap.size = g := ⟨_, rfl⟩
  have RP := Lib.hid (show Vp.heap[gp]? = some (.cells #[.bool lp, .slice A3 Zp.length c3, .slice B3 Yp.length d3] 25 (0, 0)) by rw [← hgp, hV]; exact heap_alloc_new _ _)
  have BV := Lib.hid (show Below w5.heap.size w5 Vp by rw [hV]; exact bda _ _)
  have RNx := Lib.hid (row_on RN.out BV.out)
  have ROx := Lib.hid (row_on RO.out BV.out)
  have VNx := Lib.hid (And.intro (VN.out.1.below BV.out) (VN.out.2.below BV.out))
  have VOx := Lib.hid (And.intro (VO.out.1.below BV.out) (VO.out.2.below BV.out))
  have VPx := Lib.hid (And.intro (VP.out.1.below BV.out) (VP.out.2.below BV.out))
  have KNx := Lib.hid (KN.out.trans (BV.out.mono KN.out.size))
  clear RN
  clear RO
  clear VN
  clear VO
  clear VP
  clear KN
  have RN := RNx
  have RO := ROx
  have VN := VNx
  have VO := VOx
  have VP := VPx
  have KN := KNx
  clear RNx
  clear ROx
  clear VNx
  clear VOx
  clear VPx
  clear KNx
  clear BV
  have f0 := row_c RN.out (i := 0) rfl
  have f1 := row_c RN.out (i := 1) rfl
  have f2 := row_c RN.out (i := 2) rfl
  rw [hV] at f0
  rw [hV] at f1
  rw [hV] at f2
  have HV := Lib.hid hV
  clear hV
  go_wp2_with fail
  rw [← HV.out]
  clear HV f0 f1 f2
  refine (out_both lf A1 c1 zs B1 d1 ys k Vp VN.out.1 VN.out.2 (by have := LL.out.1; omega)).mono ?_
  rintro e w6 ⟨lo, A4, c4, Zo, B4, d4, Yo, rfl, g1, g2, hp, hb⟩
  have HO := Lib.hid hp
  clear hp
  have RNx := Lib.hid (row_on RN.out hb)
  have ROx := Lib.hid (row_on RO.out hb)
  have RPx := Lib.hid (row_on RP.out hb)
  have VNx := Lib.hid (And.intro (VN.out.1.below hb) (VN.out.2.below hb))
  have VOx := Lib.hid (And.intro (VO.out.1.below hb) (VO.out.2.below hb))
  have VPx := Lib.hid (And.intro (VP.out.1.below hb) (VP.out.2.below hb))
  have KNx := Lib.hid (KN.out.trans (hb.mono KN.out.size))
  clear RN RO RP VN VO VP KN
  have RN := RNx
  have RO := ROx
  have RP := RPx
  have VN := VNx
  have VO := VOx
  have VP := VPx
  have KN := KNx
  clear RNx ROx RPx VNx VOx VPx KNx
  have VQ := Lib.hid (And.intro g1 g2)
  clear hb g1 g2
  obtain ⟨Vq, hV⟩ : ∃ V : World, V = w6.alloc (.cells #[.bool lo, .slice A4 Zo.length c4, .slice B4 Yo.length d4] 25) := ⟨_, rfl⟩
  obtain ⟨gq, hgq⟩ : ∃ g : Nat, w6.heap.size = g := ⟨_, rfl⟩
  have RQ := Lib.hid (show Vq.heap[gq]? = some (.cells #[.bool lo, .slice A4 Zo.length c4, .slice B4 Yo.length d4] 25 (0, 0)) by rw [← hgq, hV]; exact heap_alloc_new _ _)
  have BV := Lib.hid (show Below w6.heap.size w6 Vq by rw [hV]; exact bda _ _)
  have RNx := Lib.hid (row_on RN.out BV.out)
  have ROx := Lib.hid (row_on RO.out BV.out)
  have RPx := Lib.hid (row_on RP.out BV.out)
  have VNx := Lib.hid (And.intro (VN.out.1.below BV.out) (VN.out.2.below BV.out))
  have VOx := Lib.hid (And.intro (VO.out.1.below BV.out) (VO.out.2.below BV.out))
  have VPx := Lib.hid (And.intro (VP.out.1.below BV.out) (VP.out.2.below BV.out))
  have VQx := Lib.hid (And.intro (VQ.out.1.below BV.out) (VQ.out.2.below BV.out))
  have KNx := Lib.hid (KN.out.trans (BV.out.mono KN.out.size))
  clear RN
  clear RO
  clear RP
  clear VN
  clear VO
  clear VP
  clear VQ
  clear KN
  have RN := RNx
  have RO := ROx
  have RP := RPx
  have VN := VNx
  have VO := VOx
  have VP := VPx
  have VQ := VQx
  have KN := KNx
  clear RNx
  clear ROx
  clear RPx
  clear VNx
  clear VOx
  clear VPx
  clear VQx
  clear KNx
  clear BV
  have f0 := row_c RO.out (i := 0) rfl
  have f1 := row_c RO.out (i := 1) rfl
  have f2 := row_c RO.out (i := 2) rfl
  rw [hV] at f0
  rw [hV] at f1
  rw [hV] at f2
  have HV := Lib.hid hV
  clear hV
  try rw [hgp]
  go_wp2_with fail
  rw [← HV.out]
  clear HV f0 f1 f2
  try rw [hgq]
  refine (ref_any lf A2 c2 zs B2 d2 ys Vq VO.out.1 VO.out.2).mono ?_
  rintro e w7 ⟨rfl, hb⟩
  have RNx := Lib.hid (row_on RN.out hb)
  have ROx := Lib.hid (row_on RO.out hb)
  have RPx := Lib.hid (row_on RP.out hb)
  have RQx := Lib.hid (row_on RQ.out hb)
  have VNx := Lib.hid (And.intro (VN.out.1.below hb) (VN.out.2.below hb))
  have VOx := Lib.hid (And.intro (VO.out.1.below hb) (VO.out.2.below hb))
  have VPx := Lib.hid (And.intro (VP.out.1.below hb) (VP.out.2.below hb))
  have VQx := Lib.hid (And.intro (VQ.out.1.below hb) (VQ.out.2.below hb))
  have KNx := Lib.hid (KN.out.trans (hb.mono KN.out.size))
  clear RN RO RP RQ VN VO VP VQ KN
  have RN := RNx
  have RO := ROx
  have RP := RPx
  have RQ := RQx
  have VN := VNx
  have VO := VOx
  have VP := VPx
  have VQ := VQx
  have KN := KNx
  clear RNx ROx RPx RQx VNx VOx VPx VQx KNx
  clear hb
  go_wp2_with fail
  refine (plain_any lf A2 c2 zs B2 d2 ys w7 VO.out.1 VO.out.2 (by have := LL.out.1; omega) (by have := LL.out.2.1; omega)).mono ?_
  rintro e w8 ⟨rfl, hb⟩
  have RNx := Lib.hid (row_on RN.out hb)
  have ROx := Lib.hid (row_on RO.out hb)
  have RPx := Lib.hid (row_on RP.out hb)
  have RQx := Lib.hid (row_on RQ.out hb)
  have VNx := Lib.hid (And.intro (VN.out.1.below hb) (VN.out.2.below hb))
  have VOx := Lib.hid (And.intro (VO.out.1.below hb) (VO.out.2.below hb))
  have VPx := Lib.hid (And.intro (VP.out.1.below hb) (VP.out.2.below hb))
  have VQx := Lib.hid (And.intro (VQ.out.1.below hb) (VQ.out.2.below hb))
  have KNx := Lib.hid (KN.out.trans (hb.mono KN.out.size))
  clear RN RO RP RQ VN VO VP VQ KN
  have RN := RNx
  have RO := ROx
  have RP := RPx
  have RQ := RQx
  have VN := VNx
  have VO := VOx
  have VP := VPx
  have VQ := VQx
  have KN := KNx
  clear RNx ROx RPx RQx VNx VOx VPx VQx KNx
  clear hb
  cases hP : plainB lf zs ys
  · clear hP
    go_wp2
    go_ret
    exact ⟨rfl, KN.out⟩
  · obtain ⟨hlp, hz1, hz2⟩ := HP.out hP
    obtain ⟨hlo, hz3, hz4⟩ := HO.out hP
    obtain rfl : lf = lp := hlp.symm
    obtain rfl : lf = lo := hlo.symm
    have hr := HR.out (plain_facts hP).2.2.2
    have SH := Lib.hid (plain_shaped hP)
    have RPC := Lib.hid (fun x (h1 : Rl sv x A2 c2 zs) (h3 : Rl nv x B2 d2 ys) => rput_any _ A2 c2 zs B2 d2 ys key kid x h1 h3 (by have := LL.out.1; omega) SH.out)
    have ROC := Lib.hid (fun x (h1 : Rl sv x A2 c2 zs) (h3 : Rl nv x B2 d2 ys) => rout_both _ A2 c2 zs B2 d2 ys k x h1 h3 (by have := LL.out.1; omega) SH.out)
    rw [← hz1, ← hz2] at RPC
    rw [← hz3, ← hz4] at ROC
    have LP := Lib.hid (show Zp.length ≤ 4000000 ∧ Yp.length ≤ 4000001 ∧ Zo.length ≤ 4000000 ∧ Yo.length ≤ 4000001 by
      have h1 := LL.out.1
      have h2 := LL.out.2.1
      rw [hz1, hz2, hz3, hz4]
      have h3 := putK_len key zs
      have h4 := putD_len (lf := lf) (key := key) (kid := kid) (show ys.length = _ from (plain_facts hP).1)
      have h5 := outK_le lf k zs ys
      have h6 := outD_le k zs ys
      have h7 : (putK key zs).length ≤ 13 := by rw [h3]; split <;> omega
      have h8 : (putD lf key zs kid ys).length ≤ 14 := by rw [h4]; split <;> omega
      omega)
    clear hz1 hz2 hz3 hz4 HP HO HR hP
    subst hr
    have FN := Lib.hid (fun V x (K : Below V.heap.size V x) (h : V.heap[w.heap.size]? = some (.cells #[.bool lf, .slice A1 zs.length c1, .slice B1 ys.length d1] 25 (0, 0))) => And.intro (row_c (row_on h K) (i := 0) rfl) (And.intro (row_c (row_on h K) (i := 1) rfl) (row_c (row_on h K) (i := 2) rfl)))
    obtain ⟨V8, hV8⟩ : ∃ z, w8 = z := ⟨_, rfl⟩
    rw [hV8] at RN RO RP RQ VN VO VP VQ KN ⊢
    clear hV8
    have F1 := Lib.hid (fun x (K : Below V8.heap.size V8 x) => And.intro (row_c (row_on RP.out K) (i := 0) rfl) (And.intro (row_c (row_on RP.out K) (i := 1) rfl) (row_c (row_on RP.out K) (i := 2) rfl)))
    have F2 := Lib.hid (fun x (K : Below V8.heap.size V8 x) => And.intro (row_c (row_on RO.out K) (i := 0) rfl) (And.intro (row_c (row_on RO.out K) (i := 1) rfl) (row_c (row_on RO.out K) (i := 2) rfl)))
    go_upto_region 12 with (fail)
    refine wp_operands (W := V8) rfl 7 [41, 42, 43, 44, 45, 46, 47] (fun i u x => match i with | 0 => u = .agg #[.bool lf, .slice A3 Zp.length c3, .slice B3 Yp.length d3] | 1 => u = .agg #[.bool lf, .slice A2 zs.length c2, .slice B2 ys.length d2] | 2 => u = .agg #[.bool lf, .slice A2 zs.length c2, .slice B2 ys.length d2] | 3 => u = .string ⟨key.toArray⟩ | 4 => u = .int .i64 kid | 5 => ∃ A0 c0 B0 d0, u = .agg #[.bool lf, .slice A0 Zp.length c0, .slice B0 Yp.length d0] ∧ Rl sv x A0 c0 Zp ∧ Rl nv x B0 d0 Yp | 6 => u = .bool true | _ => True) (fun _ => false)
      (by decide) rfl (by kernel_rfl) (by kernel_rfl) (by decide) (by kernel_rfl) ?_ (fun _ _ _ h => by cases h) ?_ ?_
    · intro i u x x' hi hR hb'
      have hi' : i = 0 ∨ i = 1 ∨ i = 2 ∨ i = 3 ∨ i = 4 ∨ i = 5 ∨ i = 6 := by omega
      rcases hi' with rfl | rfl | rfl | rfl | rfl | rfl | rfl
      · exact hR
      · exact hR
      · exact hR
      · exact hR
      · exact hR
      · obtain ⟨A0, c0, B0, d0, e, h1, h2⟩ := hR; exact ⟨A0, c0, B0, d0, e, h1.below hb', h2.below hb'⟩
      · exact hR
    · intro i av x K hi hF hb' hw hK
      have hi' : i = 0 ∨ i = 1 ∨ i = 2 ∨ i = 3 ∨ i = 4 ∨ i = 5 ∨ i = 6 := by omega
      rcases hi' with rfl | rfl | rfl | rfl | rfl | rfl | rfl
      · simp only [wpOp, List.getElem?_toArray, List.getElem?_cons_zero, Region.wanted, if_true]
        refine Or.inl ?_
        have e0 : av.tmps.getD 12 undef = .pointer (some ⟨gp, 0, none⟩) := hF.2.2 12 (by decide)
        have e0e : av.eval (.tmp 12) = .pointer (some ⟨gp, 0, none⟩) := e0
        have e0g : av.tmps[12]?.getD undef = .pointer (some ⟨gp, 0, none⟩) := by have := e0; simp only [Array.getD_eq_getD_getElem?] at this; exact this
        obtain ⟨f0, f1, f2⟩ := F1.out x hb'
        clear hw hF
        simp only [Oper.wp, execOp]
        try simp only [e0e]
        go_simp
        exact hK _ x (by first | rfl | (simp only [Nat.add_zero]; done) | (congr 1; omega)) (Below.refl _ _) (fun h => by cases h)
      · simp only [wpOp, List.getElem?_toArray, List.getElem?_cons_succ, List.getElem?_cons_zero, Region.wanted, if_true]
        refine Or.inl ?_
        have e0 : av.tmps.getD 10 undef = .pointer (some ⟨go, 0, none⟩) := hF.2.2 10 (by decide)
        have e0e : av.eval (.tmp 10) = .pointer (some ⟨go, 0, none⟩) := e0
        have e0g : av.tmps[10]?.getD undef = .pointer (some ⟨go, 0, none⟩) := by have := e0; simp only [Array.getD_eq_getD_getElem?] at this; exact this
        obtain ⟨f0, f1, f2⟩ := F2.out x hb'
        clear hw hF
        simp only [Oper.wp, execOp]
        try simp only [e0e]
        go_simp
        exact hK _ x (by first | rfl | (simp only [Nat.add_zero]; done) | (congr 1; omega)) (Below.refl _ _) (fun h => by cases h)
      · simp only [wpOp, List.getElem?_toArray, List.getElem?_cons_succ, List.getElem?_cons_zero, Region.wanted, if_true]
        refine Or.inl ?_
        have e0 : av.tmps.getD 42 undef = .agg #[.bool lf, .slice A2 zs.length c2, .slice B2 ys.length d2] := (hw 1 (by kernel_rfl))
        have e0e : av.eval (.tmp 42) = .agg #[.bool lf, .slice A2 zs.length c2, .slice B2 ys.length d2] := e0
        have e0g : av.tmps[42]?.getD undef = .agg #[.bool lf, .slice A2 zs.length c2, .slice B2 ys.length d2] := by have := e0; simp only [Array.getD_eq_getD_getElem?] at this; exact this
        clear hw hF
        simp only [Oper.wp, execOp]
        try simp only [e0e]
        go_simp
        refine (ref_any lf A2 c2 zs B2 d2 ys x (VO.out.1.below hb') (VO.out.2.below hb')).mono ?_
        rintro e x' ⟨rfl, hx⟩
        exact hK _ x' rfl hx (fun h => by cases h)
      · simp only [wpOp, List.getElem?_toArray, List.getElem?_cons_succ, List.getElem?_cons_zero, Region.wanted, if_true]
        refine Or.inl ?_
        have e0 : av.tmps.getD 1 undef = .string ⟨key.toArray⟩ := hF.2.2 1 (by decide)
        have e0e : av.eval (.tmp 1) = .string ⟨key.toArray⟩ := e0
        have e0g : av.tmps[1]?.getD undef = .string ⟨key.toArray⟩ := by have := e0; simp only [Array.getD_eq_getD_getElem?] at this; exact this
        clear hw hF
        simp only [Oper.wp, execOp]
        try simp only [e0e]
        go_simp
        exact hK _ x (by first | rfl | (simp only [Nat.add_zero]; done) | (congr 1; omega)) (Below.refl _ _) (fun h => by cases h)
      · simp only [wpOp, List.getElem?_toArray, List.getElem?_cons_succ, List.getElem?_cons_zero, Region.wanted, if_true]
        refine Or.inl ?_
        have e0 : av.tmps.getD 2 undef = .int .i64 kid := hF.2.2 2 (by decide)
        have e0e : av.eval (.tmp 2) = .int .i64 kid := e0
        have e0g : av.tmps[2]?.getD undef = .int .i64 kid := by have := e0; simp only [Array.getD_eq_getD_getElem?] at this; exact this
        clear hw hF
        simp only [Oper.wp, execOp]
        try simp only [e0e]
        go_simp
        exact hK _ x (by first | rfl | (simp only [Nat.add_zero]; done) | (congr 1; omega)) (Below.refl _ _) (fun h => by cases h)
      · simp only [wpOp, List.getElem?_toArray, List.getElem?_cons_succ, List.getElem?_cons_zero, Region.wanted, if_true]
        refine Or.inl ?_
        have e0 : av.tmps.getD 43 undef = .agg #[.bool lf, .slice A2 zs.length c2, .slice B2 ys.length d2] := (hw 2 (by kernel_rfl))
        have e0e : av.eval (.tmp 43) = .agg #[.bool lf, .slice A2 zs.length c2, .slice B2 ys.length d2] := e0
        have e0g : av.tmps[43]?.getD undef = .agg #[.bool lf, .slice A2 zs.length c2, .slice B2 ys.length d2] := by have := e0; simp only [Array.getD_eq_getD_getElem?] at this; exact this
        have e1 : av.tmps.getD 44 undef = .string ⟨key.toArray⟩ := (hw 3 (by kernel_rfl))
        have e1e : av.eval (.tmp 44) = .string ⟨key.toArray⟩ := e1
        have e1g : av.tmps[44]?.getD undef = .string ⟨key.toArray⟩ := by have := e1; simp only [Array.getD_eq_getD_getElem?] at this; exact this
        have e2 : av.tmps.getD 45 undef = .int .i64 kid := (hw 4 (by kernel_rfl))
        have e2e : av.eval (.tmp 45) = .int .i64 kid := e2
        have e2g : av.tmps[45]?.getD undef = .int .i64 kid := by have := e2; simp only [Array.getD_eq_getD_getElem?] at this; exact this
        clear hw hF
        simp only [Oper.wp, execOp]
        try simp only [e0e, e1e, e2e]
        go_simp
        refine (RPC.out x (VO.out.1.below hb') (VO.out.2.below hb')).mono ?_
        rintro e x' ⟨A0, c0, B0, d0, rfl, h1, h2, hx⟩
        exact hK _ x' ⟨A0, c0, B0, d0, rfl, h1, h2⟩ hx (fun h => by cases h)
      · simp only [wpOp, List.getElem?_toArray, List.getElem?_cons_succ, List.getElem?_cons_zero, Region.wanted, if_true]
        refine Or.inl ?_
        have e0 : av.tmps.getD 41 undef = .agg #[.bool lf, .slice A3 Zp.length c3, .slice B3 Yp.length d3] := (hw 0 (by kernel_rfl))
        have e0e : av.eval (.tmp 41) = .agg #[.bool lf, .slice A3 Zp.length c3, .slice B3 Yp.length d3] := e0
        have e0g : av.tmps[41]?.getD undef = .agg #[.bool lf, .slice A3 Zp.length c3, .slice B3 Yp.length d3] := by have := e0; simp only [Array.getD_eq_getD_getElem?] at this; exact this
        obtain ⟨Ax1, cx1, Bx1, dx1, e1, h1x1, h2x1⟩ := (hw 5 (by kernel_rfl))
        have e1e : av.eval (.tmp 46) = .agg #[.bool lf, .slice Ax1 Zp.length cx1, .slice Bx1 Yp.length dx1] := e1
        have e1g : av.tmps[46]?.getD undef = .agg #[.bool lf, .slice Ax1 Zp.length cx1, .slice Bx1 Yp.length dx1] := by have := e1; simp only [Array.getD_eq_getD_getElem?] at this; exact this
        clear hw hF
        simp only [Oper.wp, execOp]
        try simp only [e0e, e1e]
        go_simp
        refine (nodes_any lf _ _ _ _ _ _ _ _ Zp Yp x (VP.out.1.below hb') (VP.out.2.below hb') h1x1 h2x1 LP.out.1 LP.out.2.1).mono ?_
        rintro e x' ⟨rfl, hx⟩
        exact hK _ x' rfl hx (fun h => by cases h)
    · intro av x hF hb' hR _
      have e0 : av.tmps.getD 41 undef = .agg #[.bool lf, .slice A3 Zp.length c3, .slice B3 Yp.length d3] := hR 0 (by decide)
      have e1 : av.tmps.getD 42 undef = .agg #[.bool lf, .slice A2 zs.length c2, .slice B2 ys.length d2] := hR 1 (by decide)
      have e2 : av.tmps.getD 43 undef = .agg #[.bool lf, .slice A2 zs.length c2, .slice B2 ys.length d2] := hR 2 (by decide)
      have e3 : av.tmps.getD 44 undef = .string ⟨key.toArray⟩ := hR 3 (by decide)
      have e4 : av.tmps.getD 45 undef = .int .i64 kid := hR 4 (by decide)
      obtain ⟨Ax5, cx5, Bx5, dx5, e5, h1x5, h2x5⟩ := hR 5 (by decide)
      replace e5 : av.tmps.getD 46 undef = .agg #[.bool lf, .slice Ax5 Zp.length cx5, .slice Bx5 Yp.length dx5] := e5
      have e6 : av.tmps.getD 47 undef = .bool true := hR 6 (by decide)
      rw [hF.fold (by kernel_rfl)]
      simp only [List.foldl_cons, List.foldl_nil, e0, e1, e2, e3, e4, e5, e6]
      simp only [Act.put, List.setIfInBounds_toArray, List.set_cons_zero, List.set_cons_succ]
      change wpOps _ _ _ [7] _ _
      simp only [wpOps_cons]
      clear e0 e1 e2 e3 e4 e5 e6 hR hF
      clear h1x5 h2x5
      have RNx := Lib.hid (row_on RN.out hb')
      have ROx := Lib.hid (row_on RO.out hb')
      have RPx := Lib.hid (row_on RP.out hb')
      have RQx := Lib.hid (row_on RQ.out hb')
      have VNx := Lib.hid (And.intro (VN.out.1.below hb') (VN.out.2.below hb'))
      have VOx := Lib.hid (And.intro (VO.out.1.below hb') (VO.out.2.below hb'))
      have VPx := Lib.hid (And.intro (VP.out.1.below hb') (VP.out.2.below hb'))
      have VQx := Lib.hid (And.intro (VQ.out.1.below hb') (VQ.out.2.below hb'))
      have KNx := Lib.hid (KN.out.trans (hb'.mono KN.out.size))
      clear RN RO RP RQ VN VO VP VQ KN
      have RN := RNx
      have RO := ROx
      have RP := RPx
      have RQ := RQx
      have VN := VNx
      have VO := VOx
      have VP := VPx
      have VQ := VQx
      have KN := KNx
      clear RNx ROx RPx RQx VNx VOx VPx VQx KNx
      clear hb' F1 F2
      try rw [wpOps_cons]
      simp only [wpOp, List.getElem?_toArray, List.getElem?_cons_succ, List.getElem?_cons_zero, Region.wanted, if_true]
      refine Or.inl ?_
      simp only [Oper.wp, execOp]
      go_simp
      try simp only [wpOps]
      obtain ⟨V8, hV8⟩ : ∃ z, x = z := ⟨_, rfl⟩
      rw [hV8] at RN RO RP RQ VN VO VP VQ KN ⊢
      clear hV8
      have F1 := Lib.hid (fun x (K : Below V8.heap.size V8 x) => And.intro (row_c (row_on RQ.out K) (i := 0) rfl) (And.intro (row_c (row_on RQ.out K) (i := 1) rfl) (row_c (row_on RQ.out K) (i := 2) rfl)))
      have F2 := Lib.hid (fun x (K : Below V8.heap.size V8 x) => And.intro (row_c (row_on RO.out K) (i := 0) rfl) (And.intro (row_c (row_on RO.out K) (i := 1) rfl) (row_c (row_on RO.out K) (i := 2) rfl)))
      go_upto_region 13 with (fail)
      refine wp_operands (W := V8) rfl 6 [48, 49, 50, 51, 52, 53] (fun i u x => match i with | 0 => u = .agg #[.bool lf, .slice A4 Zo.length c4, .slice B4 Yo.length d4] | 1 => u = .agg #[.bool lf, .slice A2 zs.length c2, .slice B2 ys.length d2] | 2 => u = .agg #[.bool lf, .slice A2 zs.length c2, .slice B2 ys.length d2] | 3 => u = .int .i64 k | 4 => ∃ A0 c0 B0 d0, u = .agg #[.bool lf, .slice A0 Zo.length c0, .slice B0 Yo.length d0] ∧ Rl sv x A0 c0 Zo ∧ Rl nv x B0 d0 Yo | 5 => u = .bool true | _ => True) (fun _ => false)
        (by decide) rfl (by kernel_rfl) (by kernel_rfl) (by decide) (by kernel_rfl) ?_ (fun _ _ _ h => by cases h) ?_ ?_
      · intro i u x x' hi hR hb'
        have hi' : i = 0 ∨ i = 1 ∨ i = 2 ∨ i = 3 ∨ i = 4 ∨ i = 5 := by omega
        rcases hi' with rfl | rfl | rfl | rfl | rfl | rfl
        · exact hR
        · exact hR
        · exact hR
        · exact hR
        · obtain ⟨A0, c0, B0, d0, e, h1, h2⟩ := hR; exact ⟨A0, c0, B0, d0, e, h1.below hb', h2.below hb'⟩
        · exact hR
      · intro i av x K hi hF hb' hw hK
        have hi' : i = 0 ∨ i = 1 ∨ i = 2 ∨ i = 3 ∨ i = 4 ∨ i = 5 := by omega
        rcases hi' with rfl | rfl | rfl | rfl | rfl | rfl
        · simp only [wpOp, List.getElem?_toArray, List.getElem?_cons_zero, Region.wanted, if_true]
          refine Or.inl ?_
          have e0 : av.tmps.getD 13 undef = .pointer (some ⟨gq, 0, none⟩) := hF.2.2 13 (by decide)
          have e0e : av.eval (.tmp 13) = .pointer (some ⟨gq, 0, none⟩) := e0
          have e0g : av.tmps[13]?.getD undef = .pointer (some ⟨gq, 0, none⟩) := by have := e0; simp only [Array.getD_eq_getD_getElem?] at this; exact this
          obtain ⟨f0, f1, f2⟩ := F1.out x hb'
          clear hw hF
          simp only [Oper.wp, execOp]
          try simp only [e0e]
          go_simp
          exact hK _ x (by first | rfl | (simp only [Nat.add_zero]; done) | (congr 1; omega)) (Below.refl _ _) (fun h => by cases h)
        · simp only [wpOp, List.getElem?_toArray, List.getElem?_cons_succ, List.getElem?_cons_zero, Region.wanted, if_true]
          refine Or.inl ?_
          have e0 : av.tmps.getD 10 undef = .pointer (some ⟨go, 0, none⟩) := hF.2.2 10 (by decide)
          have e0e : av.eval (.tmp 10) = .pointer (some ⟨go, 0, none⟩) := e0
          have e0g : av.tmps[10]?.getD undef = .pointer (some ⟨go, 0, none⟩) := by have := e0; simp only [Array.getD_eq_getD_getElem?] at this; exact this
          obtain ⟨f0, f1, f2⟩ := F2.out x hb'
          clear hw hF
          simp only [Oper.wp, execOp]
          try simp only [e0e]
          go_simp
          exact hK _ x (by first | rfl | (simp only [Nat.add_zero]; done) | (congr 1; omega)) (Below.refl _ _) (fun h => by cases h)
        · simp only [wpOp, List.getElem?_toArray, List.getElem?_cons_succ, List.getElem?_cons_zero, Region.wanted, if_true]
          refine Or.inl ?_
          have e0 : av.tmps.getD 49 undef = .agg #[.bool lf, .slice A2 zs.length c2, .slice B2 ys.length d2] := (hw 1 (by kernel_rfl))
          have e0e : av.eval (.tmp 49) = .agg #[.bool lf, .slice A2 zs.length c2, .slice B2 ys.length d2] := e0
          have e0g : av.tmps[49]?.getD undef = .agg #[.bool lf, .slice A2 zs.length c2, .slice B2 ys.length d2] := by have := e0; simp only [Array.getD_eq_getD_getElem?] at this; exact this
          clear hw hF
          simp only [Oper.wp, execOp]
          try simp only [e0e]
          go_simp
          refine (ref_any lf A2 c2 zs B2 d2 ys x (VO.out.1.below hb') (VO.out.2.below hb')).mono ?_
          rintro e x' ⟨rfl, hx⟩
          exact hK _ x' rfl hx (fun h => by cases h)
        · simp only [wpOp, List.getElem?_toArray, List.getElem?_cons_succ, List.getElem?_cons_zero, Region.wanted, if_true]
          refine Or.inl ?_
          have e0 : av.tmps.getD 3 undef = .int .i64 k := hF.2.2 3 (by decide)
          have e0e : av.eval (.tmp 3) = .int .i64 k := e0
          have e0g : av.tmps[3]?.getD undef = .int .i64 k := by have := e0; simp only [Array.getD_eq_getD_getElem?] at this; exact this
          clear hw hF
          simp only [Oper.wp, execOp]
          try simp only [e0e]
          go_simp
          exact hK _ x (by first | rfl | (simp only [Nat.add_zero]; done) | (congr 1; omega)) (Below.refl _ _) (fun h => by cases h)
        · simp only [wpOp, List.getElem?_toArray, List.getElem?_cons_succ, List.getElem?_cons_zero, Region.wanted, if_true]
          refine Or.inl ?_
          have e0 : av.tmps.getD 50 undef = .agg #[.bool lf, .slice A2 zs.length c2, .slice B2 ys.length d2] := (hw 2 (by kernel_rfl))
          have e0e : av.eval (.tmp 50) = .agg #[.bool lf, .slice A2 zs.length c2, .slice B2 ys.length d2] := e0
          have e0g : av.tmps[50]?.getD undef = .agg #[.bool lf, .slice A2 zs.length c2, .slice B2 ys.length d2] := by have := e0; simp only [Array.getD_eq_getD_getElem?] at this; exact this
          have e1 : av.tmps.getD 51 undef = .int .i64 k := (hw 3 (by kernel_rfl))
          have e1e : av.eval (.tmp 51) = .int .i64 k := e1
          have e1g : av.tmps[51]?.getD undef = .int .i64 k := by have := e1; simp only [Array.getD_eq_getD_getElem?] at this; exact this
          clear hw hF
          simp only [Oper.wp, execOp]
          try simp only [e0e, e1e]
          go_simp
          refine (ROC.out x (VO.out.1.below hb') (VO.out.2.below hb')).mono ?_
          rintro e x' ⟨A0, c0, B0, d0, rfl, h1, h2, hx⟩
          exact hK _ x' ⟨A0, c0, B0, d0, rfl, h1, h2⟩ hx (fun h => by cases h)
        · simp only [wpOp, List.getElem?_toArray, List.getElem?_cons_succ, List.getElem?_cons_zero, Region.wanted, if_true]
          refine Or.inl ?_
          have e0 : av.tmps.getD 48 undef = .agg #[.bool lf, .slice A4 Zo.length c4, .slice B4 Yo.length d4] := (hw 0 (by kernel_rfl))
          have e0e : av.eval (.tmp 48) = .agg #[.bool lf, .slice A4 Zo.length c4, .slice B4 Yo.length d4] := e0
          have e0g : av.tmps[48]?.getD undef = .agg #[.bool lf, .slice A4 Zo.length c4, .slice B4 Yo.length d4] := by have := e0; simp only [Array.getD_eq_getD_getElem?] at this; exact this
          obtain ⟨Ax1, cx1, Bx1, dx1, e1, h1x1, h2x1⟩ := (hw 4 (by kernel_rfl))
          have e1e : av.eval (.tmp 52) = .agg #[.bool lf, .slice Ax1 Zo.length cx1, .slice Bx1 Yo.length dx1] := e1
          have e1g : av.tmps[52]?.getD undef = .agg #[.bool lf, .slice Ax1 Zo.length cx1, .slice Bx1 Yo.length dx1] := by have := e1; simp only [Array.getD_eq_getD_getElem?] at this; exact this
          clear hw hF
          simp only [Oper.wp, execOp]
          try simp only [e0e, e1e]
          go_simp
          refine (nodes_any lf _ _ _ _ _ _ _ _ Zo Yo x (VQ.out.1.below hb') (VQ.out.2.below hb') h1x1 h2x1 LP.out.2.2.1 LP.out.2.2.2).mono ?_
          rintro e x' ⟨rfl, hx⟩
          exact hK _ x' rfl hx (fun h => by cases h)
      · intro av x hF hb' hR _
        have e0 : av.tmps.getD 48 undef = .agg #[.bool lf, .slice A4 Zo.length c4, .slice B4 Yo.length d4] := hR 0 (by decide)
        have e1 : av.tmps.getD 49 undef = .agg #[.bool lf, .slice A2 zs.length c2, .slice B2 ys.length d2] := hR 1 (by decide)
        have e2 : av.tmps.getD 50 undef = .agg #[.bool lf, .slice A2 zs.length c2, .slice B2 ys.length d2] := hR 2 (by decide)
        have e3 : av.tmps.getD 51 undef = .int .i64 k := hR 3 (by decide)
        obtain ⟨Ax4, cx4, Bx4, dx4, e4, h1x4, h2x4⟩ := hR 4 (by decide)
        replace e4 : av.tmps.getD 52 undef = .agg #[.bool lf, .slice Ax4 Zo.length cx4, .slice Bx4 Yo.length dx4] := e4
        have e5 : av.tmps.getD 53 undef = .bool true := hR 5 (by decide)
        rw [hF.fold (by kernel_rfl)]
        simp only [List.foldl_cons, List.foldl_nil, e0, e1, e2, e3, e4, e5]
        simp only [Act.put, List.setIfInBounds_toArray, List.set_cons_zero, List.set_cons_succ]
        change wpOps _ _ _ [6] _ _
        simp only [wpOps_cons]
        clear e0 e1 e2 e3 e4 e5 hR hF
        clear h1x4 h2x4
        have RNx := Lib.hid (row_on RN.out hb')
        have ROx := Lib.hid (row_on RO.out hb')
        have RPx := Lib.hid (row_on RP.out hb')
        have RQx := Lib.hid (row_on RQ.out hb')
        have VNx := Lib.hid (And.intro (VN.out.1.below hb') (VN.out.2.below hb'))
        have VOx := Lib.hid (And.intro (VO.out.1.below hb') (VO.out.2.below hb'))
        have VPx := Lib.hid (And.intro (VP.out.1.below hb') (VP.out.2.below hb'))
        have VQx := Lib.hid (And.intro (VQ.out.1.below hb') (VQ.out.2.below hb'))
        have KNx := Lib.hid (KN.out.trans (hb'.mono KN.out.size))
        clear RN RO RP RQ VN VO VP VQ KN
        have RN := RNx
        have RO := ROx
        have RP := RPx
        have RQ := RQx
        have VN := VNx
        have VO := VOx
        have VP := VPx
        have VQ := VQx
        have KN := KNx
        clear RNx ROx RPx RQx VNx VOx VPx VQx KNx
        clear hb' F1 F2
        try rw [wpOps_cons]
        simp only [wpOp, List.getElem?_toArray, List.getElem?_cons_succ, List.getElem?_cons_zero, Region.wanted, if_true]
        refine Or.inl ?_
        simp only [Oper.wp, execOp]
        go_simp
        try simp only [wpOps]
        obtain ⟨V8, hV8⟩ : ∃ z, x = z := ⟨_, rfl⟩
        rw [hV8] at RN RO RP RQ VN VO VP VQ KN ⊢
        clear hV8
        have F1 := Lib.hid (fun x (K : Below V8.heap.size V8 x) => And.intro (row_c (row_on RN.out K) (i := 0) rfl) (And.intro (row_c (row_on RN.out K) (i := 1) rfl) (row_c (row_on RN.out K) (i := 2) rfl)))
        have F2 := Lib.hid (fun x (K : Below V8.heap.size V8 x) => And.intro (row_c (row_on RO.out K) (i := 0) rfl) (And.intro (row_c (row_on RO.out K) (i := 1) rfl) (row_c (row_on RO.out K) (i := 2) rfl)))
        go_upto_region 14 with (fail)
        refine wp_operands (W := V8) rfl 4 [54, 55, 56, 57] (fun i u x => match i with | 0 => u = .agg #[.bool lf, .slice A1 zs.length c1, .slice B1 ys.length d1] | 1 => u = .agg #[.bool lf, .slice A2 zs.length c2, .slice B2 ys.length d2] | 2 => u = .agg #[.bool lf, .slice A2 zs.length c2, .slice B2 ys.length d2] | 3 => u = .bool true | _ => True) (fun _ => false)
          (by decide) rfl (by kernel_rfl) (by kernel_rfl) (by decide) (by kernel_rfl) ?_ (fun _ _ _ h => by cases h) ?_ ?_
        · intro i u x x' hi hR hb'
          have hi' : i = 0 ∨ i = 1 ∨ i = 2 ∨ i = 3 := by omega
          rcases hi' with rfl | rfl | rfl | rfl
          · exact hR
          · exact hR
          · exact hR
          · exact hR
        · intro i av x K hi hF hb' hw hK
          have hi' : i = 0 ∨ i = 1 ∨ i = 2 ∨ i = 3 := by omega
          rcases hi' with rfl | rfl | rfl | rfl
          · simp only [wpOp, List.getElem?_toArray, List.getElem?_cons_zero, Region.wanted, if_true]
            refine Or.inl ?_
            have e0 : av.tmps.getD 4 undef = .pointer (some ⟨w.heap.size, 0, none⟩) := hF.2.2 4 (by decide)
            have e0e : av.eval (.tmp 4) = .pointer (some ⟨w.heap.size, 0, none⟩) := e0
            have e0g : av.tmps[4]?.getD undef = .pointer (some ⟨w.heap.size, 0, none⟩) := by have := e0; simp only [Array.getD_eq_getD_getElem?] at this; exact this
            obtain ⟨f0, f1, f2⟩ := F1.out x hb'
            clear hw hF
            simp only [Oper.wp, execOp]
            try simp only [e0e]
            go_simp
            exact hK _ x (by first | rfl | (simp only [Nat.add_zero]; done) | (congr 1; omega)) (Below.refl _ _) (fun h => by cases h)
          · simp only [wpOp, List.getElem?_toArray, List.getElem?_cons_succ, List.getElem?_cons_zero, Region.wanted, if_true]
            refine Or.inl ?_
            have e0 : av.tmps.getD 10 undef = .pointer (some ⟨go, 0, none⟩) := hF.2.2 10 (by decide)
            have e0e : av.eval (.tmp 10) = .pointer (some ⟨go, 0, none⟩) := e0
            have e0g : av.tmps[10]?.getD undef = .pointer (some ⟨go, 0, none⟩) := by have := e0; simp only [Array.getD_eq_getD_getElem?] at this; exact this
            obtain ⟨f0, f1, f2⟩ := F2.out x hb'
            clear hw hF
            simp only [Oper.wp, execOp]
            try simp only [e0e]
            go_simp
            exact hK _ x (by first | rfl | (simp only [Nat.add_zero]; done) | (congr 1; omega)) (Below.refl _ _) (fun h => by cases h)
          · simp only [wpOp, List.getElem?_toArray, List.getElem?_cons_succ, List.getElem?_cons_zero, Region.wanted, if_true]
            refine Or.inl ?_
            have e0 : av.tmps.getD 55 undef = .agg #[.bool lf, .slice A2 zs.length c2, .slice B2 ys.length d2] := (hw 1 (by kernel_rfl))
            have e0e : av.eval (.tmp 55) = .agg #[.bool lf, .slice A2 zs.length c2, .slice B2 ys.length d2] := e0
            have e0g : av.tmps[55]?.getD undef = .agg #[.bool lf, .slice A2 zs.length c2, .slice B2 ys.length d2] := by have := e0; simp only [Array.getD_eq_getD_getElem?] at this; exact this
            clear hw hF
            simp only [Oper.wp, execOp]
            try simp only [e0e]
            go_simp
            refine (ref_any lf A2 c2 zs B2 d2 ys x (VO.out.1.below hb') (VO.out.2.below hb')).mono ?_
            rintro e x' ⟨rfl, hx⟩
            exact hK _ x' rfl hx (fun h => by cases h)
          · simp only [wpOp, List.getElem?_toArray, List.getElem?_cons_succ, List.getElem?_cons_zero, Region.wanted, if_true]
            refine Or.inl ?_
            have e0 : av.tmps.getD 54 undef = .agg #[.bool lf, .slice A1 zs.length c1, .slice B1 ys.length d1] := (hw 0 (by kernel_rfl))
            have e0e : av.eval (.tmp 54) = .agg #[.bool lf, .slice A1 zs.length c1, .slice B1 ys.length d1] := e0
            have e0g : av.tmps[54]?.getD undef = .agg #[.bool lf, .slice A1 zs.length c1, .slice B1 ys.length d1] := by have := e0; simp only [Array.getD_eq_getD_getElem?] at this; exact this
            have e1 : av.tmps.getD 56 undef = .agg #[.bool lf, .slice A2 zs.length c2, .slice B2 ys.length d2] := (hw 2 (by kernel_rfl))
            have e1e : av.eval (.tmp 56) = .agg #[.bool lf, .slice A2 zs.length c2, .slice B2 ys.length d2] := e1
            have e1g : av.tmps[56]?.getD undef = .agg #[.bool lf, .slice A2 zs.length c2, .slice B2 ys.length d2] := by have := e1; simp only [Array.getD_eq_getD_getElem?] at this; exact this
            clear hw hF
            simp only [Oper.wp, execOp]
            try simp only [e0e, e1e]
            go_simp
            refine (nodes_any lf _ _ _ _ _ _ _ _ zs ys x (VN.out.1.below hb') (VN.out.2.below hb') (VO.out.1.below hb') (VO.out.2.below hb') (by have := LL.out.1; omega) (by have := LL.out.2.1; omega)).mono ?_
            rintro e x' ⟨rfl, hx⟩
            exact hK _ x' rfl hx (fun h => by cases h)
        · intro av x hF hb' hR _
          have e0 : av.tmps.getD 54 undef = .agg #[.bool lf, .slice A1 zs.length c1, .slice B1 ys.length d1] := hR 0 (by decide)
          have e1 : av.tmps.getD 55 undef = .agg #[.bool lf, .slice A2 zs.length c2, .slice B2 ys.length d2] := hR 1 (by decide)
          have e2 : av.tmps.getD 56 undef = .agg #[.bool lf, .slice A2 zs.length c2, .slice B2 ys.length d2] := hR 2 (by decide)
          have e3 : av.tmps.getD 57 undef = .bool true := hR 3 (by decide)
          rw [hF.fold (by kernel_rfl)]
          simp only [List.foldl_cons, List.foldl_nil, e0, e1, e2, e3]
          simp only [Act.put, List.setIfInBounds_toArray, List.set_cons_zero, List.set_cons_succ]
          change wpOps _ _ _ [4] _ _
          simp only [wpOps_cons]
          clear e0 e1 e2 e3 hR hF
          have RNx := Lib.hid (row_on RN.out hb')
          have ROx := Lib.hid (row_on RO.out hb')
          have RPx := Lib.hid (row_on RP.out hb')
          have RQx := Lib.hid (row_on RQ.out hb')
          have VNx := Lib.hid (And.intro (VN.out.1.below hb') (VN.out.2.below hb'))
          have VOx := Lib.hid (And.intro (VO.out.1.below hb') (VO.out.2.below hb'))
          have VPx := Lib.hid (And.intro (VP.out.1.below hb') (VP.out.2.below hb'))
          have VQx := Lib.hid (And.intro (VQ.out.1.below hb') (VQ.out.2.below hb'))
          have KNx := Lib.hid (KN.out.trans (hb'.mono KN.out.size))
          clear RN RO RP RQ VN VO VP VQ KN
          have RN := RNx
          have RO := ROx
          have RP := RPx
          have RQ := RQx
          have VN := VNx
          have VO := VOx
          have VP := VPx
          have VQ := VQx
          have KN := KNx
          clear RNx ROx RPx RQx VNx VOx VPx VQx KNx
          clear hb' F1 F2
          try rw [wpOps_cons]
          simp only [wpOp, List.getElem?_toArray, List.getElem?_cons_succ, List.getElem?_cons_zero, Region.wanted, if_true]
          refine Or.inl ?_
          simp only [Oper.wp, execOp]
          go_simp
          try simp only [wpOps]
          obtain ⟨f0, f1, f2⟩ := (show _ ∧ _ ∧ _ from ⟨row_c RO.out (i := 0) rfl, row_c RO.out (i := 1) rfl, row_c RO.out (i := 2) rfl⟩)
          go_wp2_with fail
          refine (ref_any lf A2 c2 zs B2 d2 ys _ VO.out.1 VO.out.2).mono ?_
          rintro e w9 ⟨rfl, hb⟩
          have RNx := Lib.hid (row_on RN.out hb)
          have ROx := Lib.hid (row_on RO.out hb)
          have RPx := Lib.hid (row_on RP.out hb)
          have RQx := Lib.hid (row_on RQ.out hb)
          have VNx := Lib.hid (And.intro (VN.out.1.below hb) (VN.out.2.below hb))
          have VOx := Lib.hid (And.intro (VO.out.1.below hb) (VO.out.2.below hb))
          have VPx := Lib.hid (And.intro (VP.out.1.below hb) (VP.out.2.below hb))
          have VQx := Lib.hid (And.intro (VQ.out.1.below hb) (VQ.out.2.below hb))
          have KNx := Lib.hid (KN.out.trans (hb.mono KN.out.size))
          clear RN RO RP RQ VN VO VP VQ KN
          have RN := RNx
          have RO := ROx
          have RP := RPx
          have RQ := RQx
          have VN := VNx
          have VO := VOx
          have VP := VPx
          have VQ := VQx
          have KN := KNx
          clear RNx ROx RPx RQx VNx VOx VPx VQx KNx
          clear hb f0 f1 f2
          go_wp2_with fail
          refine (rchild_any lf A2 c2 zs B2 d2 ys key _ VO.out.1 (by have := LL.out.1; omega)).mono ?_
          rintro e w10 ⟨rfl, hb⟩
          have RNx := Lib.hid (row_on RN.out hb)
          have ROx := Lib.hid (row_on RO.out hb)
          have RPx := Lib.hid (row_on RP.out hb)
          have RQx := Lib.hid (row_on RQ.out hb)
          have VNx := Lib.hid (And.intro (VN.out.1.below hb) (VN.out.2.below hb))
          have VOx := Lib.hid (And.intro (VO.out.1.below hb) (VO.out.2.below hb))
          have VPx := Lib.hid (And.intro (VP.out.1.below hb) (VP.out.2.below hb))
          have VQx := Lib.hid (And.intro (VQ.out.1.below hb) (VQ.out.2.below hb))
          have KNx := Lib.hid (KN.out.trans (hb.mono KN.out.size))
          clear RN RO RP RQ VN VO VP VQ KN
          have RN := RNx
          have RO := ROx
          have RP := RPx
          have RQ := RQx
          have VN := VNx
          have VO := VOx
          have VP := VPx
          have VQ := VQx
          have KN := KNx
          clear RNx ROx RPx RQx VNx VOx VPx VQx KNx
          clear hb
          go_wp2
          go_ret
          exact ⟨rfl, KN.out⟩
end Go.Proofs.Ytkbdcbcjbgbglaa
