/-
  The law's own examples.
-/
import Derived.Test.YtkbdcbcjbgbglaaNi
import Derived.Laws.StructEq
namespace Go.Proofs.Ytkbdcbcjbgbglaa
open Go.RowKit
set_option linter.unusedVariables false
theorem ex_right : rightB true [[97, 98, 99]] [5] = true := by decide
theorem ex_enc : encL true [[97, 98, 99]] [5] = [1, 3, 97, 98, 99, 0, 5] := by decide
theorem ex_dec : decA [1, 3, 97, 98, 99, 0, 5] = some (true, [[97, 98, 99]], [5]) := by
  have h1 : pents [3, 97, 98, 99, 0, 5] = some [([97, 98, 99], 5)] := by
    rw [pents, if_neg (by decide)]
    have h2 : pents (([97, 98, 99, 0, 5] : List UInt8).drop ((3 : UInt8).toNat + 2)) = some [] := by
      have h3 : ([97, 98, 99, 0, 5] : List UInt8).drop ((3 : UInt8).toNat + 2) = [] := by decide
      rw [h3, pents]
    rw [h2]
    decide
  have h4 : decS [1, 3, 97, 98, 99, 0, 5] = some (true, [[97, 98, 99]], [5]) := by
    simp [decS, h1]
  unfold decA
  rw [h4]
  decide
theorem ex_c1 : childI true [97, 98, 99] [[97, 98, 99]] = 0 := by decide
theorem ex_c2 : childI true [98] [[97, 98, 99]] = -1 := by decide
theorem ex_srt : Srt [[97, 98, 99]] := srt_of_chain (by decide)
set_option maxHeartbeats 4000000 in
set_option maxRecDepth 100000 in
theorem examples_any (w : World) : Calls Try.prog 10 #[] w fun e w' => e = .returned (.bool true) ∧ Below w.heap.size w w' := by
  have SL : ∀ (A : Option Addr) (c : Nat) (B : Option Addr) (d : Nat) V, Rl sv V A c [[97, 98, 99]] → Rl nv V B d [5] → Calls Try.prog 12 #[.agg #[.bool true, .slice A 1 c, .slice B 1 d]] V fun e w' => e = .returned (.tuple #[.string ⟨#[1, 3, 97, 98, 99, 0, 5]⟩, .int .i64 0]) ∧ Below V.heap.size V w' := fun A c B d V h1 h2 => by
    have := encode_yes true A c [[97, 98, 99]] B d [5] V h1 h2 ex_right
    rw [ex_enc] at this
    exact this
  have DL : ∀ V, Calls Try.prog 15 #[.string ⟨#[1, 3, 97, 98, 99, 0, 5]⟩] V fun e w' => (∃ A c B d, e = .returned (.tuple #[.agg #[.bool true, .slice A 1 c, .slice B 1 d], .int .i64 0]) ∧ Rl sv w' A c [[97, 98, 99]] ∧ Rl nv w' B d [5]) ∧ Below V.heap.size V w' := fun V =>
    (decode_any [1, 3, 97, 98, 99, 0, 5] V (by decide)).mono fun e w' ⟨h1, _, h3⟩ => ⟨h1 _ _ _ ex_dec, h3⟩
  have ZL : ∀ (A : Option Addr) (c : Nat) (B : Option Addr) (d : Nat) V, Rl sv V A c [[97, 98, 99]] → Calls Try.prog 20 #[.agg #[.bool true, .slice A 1 c, .slice B 1 d]] V fun e w' => e = .returned (.int .i64 7) ∧ Below V.heap.size V w' := fun A c B d V h1 =>
    size_any true A c [[97, 98, 99]] B d [5] V h1 (by decide) (by decide)
  have CL1 : ∀ (A : Option Addr) (c : Nat) (B : Option Addr) (d : Nat) V, Rl sv V A c [[97, 98, 99]] → Calls Try.prog 22 #[.agg #[.bool true, .slice A 1 c, .slice B 1 d], .string ⟨#[97, 98, 99]⟩] V fun e w' => e = .returned (.int .i64 0) ∧ Below V.heap.size V w' := fun A c B d V h1 =>
    (child_any true A c [[97, 98, 99]] B d [5] [97, 98, 99] V h1 (by decide)).mono fun e w' ⟨r, h1, h2, h3⟩ => ⟨by rw [h1, h2 ex_srt, ex_c1], h3⟩
  have CL2 : ∀ (A : Option Addr) (c : Nat) (B : Option Addr) (d : Nat) V, Rl sv V A c [[97, 98, 99]] → Calls Try.prog 22 #[.agg #[.bool true, .slice A 1 c, .slice B 1 d], .string ⟨#[98]⟩] V fun e w' => e = .returned (.int .i64 (-1)) ∧ Below V.heap.size V w' := fun A c B d V h1 =>
    (child_any true A c [[97, 98, 99]] B d [5] [98] V h1 (by decide)).mono fun e w' ⟨r, h1, h2, h3⟩ => ⟨by rw [h1, h2 ex_srt, ex_c2], h3⟩
  have RL : ∀ (A : Option Addr) (c : Nat) (B : Option Addr) (d : Nat) V, Rl sv V A c [[97, 98, 99]] → Rl nv V B d [5] → Calls Try.prog 14 #[.agg #[.bool true, .slice A 1 c, .slice B 1 d]] V fun e w' => e = .returned (.agg #[.bool true, .slice A 1 c, .slice B 1 d]) ∧ Below V.heap.size V w' := fun A c B d V h1 h2 =>
    ref_any true A c [[97, 98, 99]] B d [5] V h1 h2
  have NL : ∀ (A A2 : Option Addr) (c c2 : Nat) (B B2 : Option Addr) (d d2 : Nat) V, Rl sv V A c [[97, 98, 99]] → Rl nv V B d [5] → Rl sv V A2 c2 [[97, 98, 99]] → Rl nv V B2 d2 [5] → Calls Try.prog 17 #[.agg #[.bool true, .slice A 1 c, .slice B 1 d], .agg #[.bool true, .slice A2 1 c2, .slice B2 1 d2]] V fun e w' => e = .returned (.bool true) ∧ Below V.heap.size V w' := fun A A2 c c2 B B2 d d2 V h1 h2 h3 h4 =>
    nodes_any true A A2 B B2 c c2 d d2 [[97, 98, 99]] [5] V h1 h2 h3 h4 (by decide) (by decide)
  have HSL := Lib.hid SL
  have HDL := Lib.hid DL
  have HZL := Lib.hid ZL
  have HC1 := Lib.hid CL1
  have HC2 := Lib.hid CL2
  have HRL := Lib.hid RL
  have HNL := Lib.hid NL
  clear SL DL ZL CL1 CL2 RL NL
  obtain ⟨X1, hX1⟩ : ∃ W : World, W = w.alloc (.cells #[.string ⟨#[97, 98, 99]⟩] 9) := ⟨_, rfl⟩
  obtain ⟨X2, hX2⟩ : ∃ W : World, W = X1.alloc (.cells #[.int .i64 5] 3) := ⟨_, rfl⟩
  have k1 : Rl sv X1 (some ⟨w.heap.size, 0, none⟩) 1 [[97, 98, 99]] := rl_of_row (by rw [hX1]; exact heap_alloc_new w _) 1 (by decide)
  have k2 : Rl nv X2 (some ⟨w.heap.size + 1, 0, none⟩) 1 [5] := rl_of_row (by rw [hX2]; have := heap_alloc_new X1 (.cells #[.int .i64 5] 3); rw [show X1.heap.size = w.heap.size + 1 by rw [hX1]; simp] at this; exact this) 1 (by decide)
  have B1 := Lib.hid (show Below w.heap.size w X1 by rw [hX1]; exact bda _ _)
  have B2 := Lib.hid (show Below X1.heap.size X1 X2 by rw [hX2]; exact bda _ _)
  have KA := Lib.hid (k1.below B2.out)
  have KB := Lib.hid k2
  have SX := Lib.hid (show X2.heap.size = w.heap.size + 2 by rw [hX2, World.size_alloc, hX1, World.size_alloc])
  obtain ⟨X3, hX3⟩ : ∃ W : World, W = X2.alloc (.cells #[.bool true, .slice (some ⟨w.heap.size, 0, none⟩) 1 1, .slice (some ⟨w.heap.size + 1, 0, none⟩) 1 1] 25) := ⟨_, rfl⟩
  have R3 := Lib.hid (show X3.heap[w.heap.size + 2]? = some (.cells #[.bool true, .slice (some ⟨w.heap.size, 0, none⟩) 1 1, .slice (some ⟨w.heap.size + 1, 0, none⟩) 1 1] 25 (0, 0)) by rw [← SX.out, hX3]; exact heap_alloc_new _ _)
  have B3 := Lib.hid (show Below w.heap.size w X3 by rw [hX3]; exact bon (bon B1.out B2.out) (bda _ _))
  have K3 := Lib.hid (show Rl sv X3 _ _ _ ∧ Rl nv X3 _ _ _ by rw [hX3]; exact ⟨KA.out.below (bda _ _), KB.out.below (bda _ _)⟩)
  have HX3 := Lib.hid (show X3 = ((w.alloc (.cells #[.string ⟨#[97, 98, 99]⟩] 9)).alloc (.cells #[.int .i64 5] 3)).alloc (.cells #[.bool true, .slice (some ⟨w.heap.size, 0, none⟩) 1 1, .slice (some ⟨w.heap.size + 1, 0, none⟩) 1 1] 25) by rw [hX3, hX2, hX1])
  clear hX1 hX2 hX3 k1 k2 B1 B2 KA KB SX
  go_enter Try.func10, Try.ntmps10
  go_wp2_with fail
  rw [← HX3.out]
  refine (HSL.out _ _ _ _ _ K3.out.1 K3.out.2).mono ?_
  rintro e w1 ⟨rfl, hb⟩
  have R4 := Lib.hid (row_on R3.out hb)
  have B4 := Lib.hid (B3.out.trans (hb.mono B3.out.size))
  have K4 := Lib.hid (And.intro (K3.out.1.below hb) (K3.out.2.below hb))
  clear hb R3 B3 K3 HX3
  go_wp2_with fail
  refine (HDL.out _).mono ?_
  rintro e w2 ⟨⟨A5, c5, B5_, d5, rfl, ha, hb5⟩, hb⟩
  have R5 := Lib.hid (row_on R4.out hb)
  have B5 := Lib.hid (B4.out.trans (hb.mono B4.out.size))
  have K5 := Lib.hid (And.intro (K4.out.1.below hb) (K4.out.2.below hb))
  have M5 := Lib.hid (And.intro ha hb5)
  clear hb R4 B4 K4 ha hb5
  go_upto_region 4 with (fail)
  obtain ⟨V, hV⟩ : ∃ V : World, V = w2.alloc (.cells #[.bool true, .slice A5 1 c5, .slice B5_ 1 d5] 25) := ⟨_, rfl⟩
  have RM := Lib.hid (show V.heap[w2.heap.size]? = some (.cells #[.bool true, .slice A5 1 c5, .slice B5_ 1 d5] 25 (0, 0)) by rw [hV]; exact heap_alloc_new _ _)
  have BV := Lib.hid (show Below w2.heap.size w2 V by rw [hV]; exact bda _ _)
  rw [← hV]
  clear hV
  have R6 := Lib.hid (row_on R5.out BV.out)
  have B6 := Lib.hid (B5.out.trans (BV.out.mono B5.out.size))
  have K6 := Lib.hid (And.intro (K5.out.1.below BV.out) (K5.out.2.below BV.out))
  have M6 := Lib.hid (And.intro (M5.out.1.below BV.out) (M5.out.2.below BV.out))
  clear R5 B5 K5 M5 BV
  have FM := Lib.hid (fun x (K : Below V.heap.size V x) => (And.intro (row_c (row_on RM.out K) (i := 0) rfl) (And.intro (row_c (row_on RM.out K) (i := 1) rfl) (row_c (row_on RM.out K) (i := 2) rfl))))
  have FN := Lib.hid (fun x (K : Below V.heap.size V x) => (And.intro (row_c (row_on R6.out K) (i := 0) rfl) (And.intro (row_c (row_on R6.out K) (i := 1) rfl) (row_c (row_on R6.out K) (i := 2) rfl))))
  refine wp_operands (W := V) rfl 4 [20, 21, 22, 23] (fun i u x => match i with | 0 => u = .agg #[.bool true, .slice A5 1 c5, .slice B5_ 1 d5] | 1 => u = .agg #[.bool true, .slice (some ⟨w.heap.size, 0, none⟩) 1 1, .slice (some ⟨w.heap.size + 1, 0, none⟩) 1 1] | 2 => u = .agg #[.bool true, .slice (some ⟨w.heap.size, 0, none⟩) 1 1, .slice (some ⟨w.heap.size + 1, 0, none⟩) 1 1] | 3 => u = .bool true | _ => True) (fun _ => false)
    (by decide) rfl (by kernel_rfl) (by kernel_rfl) (by decide) (by kernel_rfl) ?_ (fun _ _ _ h => by cases h) ?_ ?_
  · intro i u x x' hi hR hb'
    have hi' : i = 0 ∨ i = 1 ∨ i = 2 ∨ i = 3 := by omega
    rcases hi' with rfl | rfl | rfl | rfl
    · exact hR
    · exact hR
    · exact hR
    · exact hR
  · intro i av x K hi hF hb' hw hK
    have hi' : i = 0 ∨ i = 1 ∨ i = 2 ∨ i = 3 := by omega
    rcases hi' with rfl | rfl | rfl | rfl
    · simp only [wpOp, List.getElem?_toArray, List.getElem?_cons_zero, Region.wanted, if_true]
      refine Or.inl ?_
      have e0 : av.tmps.getD 4 undef = .pointer (some ⟨w2.heap.size, 0, none⟩) := hF.2.2 4 (by decide)
      have e0e : av.eval (.tmp 4) = .pointer (some ⟨w2.heap.size, 0, none⟩) := e0
      have e0g : av.tmps[4]?.getD undef = .pointer (some ⟨w2.heap.size, 0, none⟩) := by have := e0; simp only [Array.getD_eq_getD_getElem?] at this; exact this
      obtain ⟨f0, f1, f2⟩ := FM.out x hb'
      clear hw hF
      simp only [Oper.wp, execOp]
      try simp only [e0e]
      go_simp
      exact hK _ x (by first | rfl | (simp only [Nat.add_zero]; done) | (congr 1; omega)) (Below.refl _ _) (fun h => by cases h)
    · simp only [wpOp, List.getElem?_toArray, List.getElem?_cons_succ, List.getElem?_cons_zero, Region.wanted, if_true]
      refine Or.inl ?_
      have e0 : av.tmps.getD 1 undef = .pointer (some ⟨w.heap.size + 2, 0, none⟩) := hF.2.2 1 (by decide)
      have e0e : av.eval (.tmp 1) = .pointer (some ⟨w.heap.size + 2, 0, none⟩) := e0
      have e0g : av.tmps[1]?.getD undef = .pointer (some ⟨w.heap.size + 2, 0, none⟩) := by have := e0; simp only [Array.getD_eq_getD_getElem?] at this; exact this
      obtain ⟨f0, f1, f2⟩ := FN.out x hb'
      clear hw hF
      simp only [Oper.wp, execOp]
      try simp only [e0e]
      go_simp
      exact hK _ x (by first | rfl | (simp only [Nat.add_zero]; done) | (congr 1; omega)) (Below.refl _ _) (fun h => by cases h)
    · simp only [wpOp, List.getElem?_toArray, List.getElem?_cons_succ, List.getElem?_cons_zero, Region.wanted, if_true]
      refine Or.inl ?_
      have e0 : av.tmps.getD 21 undef = .agg #[.bool true, .slice (some ⟨w.heap.size, 0, none⟩) 1 1, .slice (some ⟨w.heap.size + 1, 0, none⟩) 1 1] := (hw 1 (by kernel_rfl))
      have e0e : av.eval (.tmp 21) = .agg #[.bool true, .slice (some ⟨w.heap.size, 0, none⟩) 1 1, .slice (some ⟨w.heap.size + 1, 0, none⟩) 1 1] := e0
      have e0g : av.tmps[21]?.getD undef = .agg #[.bool true, .slice (some ⟨w.heap.size, 0, none⟩) 1 1, .slice (some ⟨w.heap.size + 1, 0, none⟩) 1 1] := by have := e0; simp only [Array.getD_eq_getD_getElem?] at this; exact this
      clear hw hF
      simp only [Oper.wp, execOp]
      try simp only [e0e]
      go_simp
      refine (HRL.out _ _ _ _ x (K6.out.1.below hb') (K6.out.2.below hb')).mono ?_
      rintro e x' ⟨rfl, hx⟩
      exact hK _ x' rfl hx (fun h => by cases h)
    · simp only [wpOp, List.getElem?_toArray, List.getElem?_cons_succ, List.getElem?_cons_zero, Region.wanted, if_true]
      refine Or.inl ?_
      have e0 : av.tmps.getD 20 undef = .agg #[.bool true, .slice A5 1 c5, .slice B5_ 1 d5] := (hw 0 (by kernel_rfl))
      have e0e : av.eval (.tmp 20) = .agg #[.bool true, .slice A5 1 c5, .slice B5_ 1 d5] := e0
      have e0g : av.tmps[20]?.getD undef = .agg #[.bool true, .slice A5 1 c5, .slice B5_ 1 d5] := by have := e0; simp only [Array.getD_eq_getD_getElem?] at this; exact this
      have e1 : av.tmps.getD 22 undef = .agg #[.bool true, .slice (some ⟨w.heap.size, 0, none⟩) 1 1, .slice (some ⟨w.heap.size + 1, 0, none⟩) 1 1] := (hw 2 (by kernel_rfl))
      have e1e : av.eval (.tmp 22) = .agg #[.bool true, .slice (some ⟨w.heap.size, 0, none⟩) 1 1, .slice (some ⟨w.heap.size + 1, 0, none⟩) 1 1] := e1
      have e1g : av.tmps[22]?.getD undef = .agg #[.bool true, .slice (some ⟨w.heap.size, 0, none⟩) 1 1, .slice (some ⟨w.heap.size + 1, 0, none⟩) 1 1] := by have := e1; simp only [Array.getD_eq_getD_getElem?] at this; exact this
      clear hw hF
      simp only [Oper.wp, execOp]
      try simp only [e0e, e1e]
      go_simp
      refine (HNL.out _ _ _ _ _ _ _ _ x (M6.out.1.below hb') (M6.out.2.below hb') (K6.out.1.below hb') (K6.out.2.below hb')).mono ?_
      rintro e x' ⟨rfl, hx⟩
      exact hK _ x' rfl hx (fun h => by cases h)
  · intro av x hF hb' hR _
    have e0 : av.tmps.getD 20 undef = .agg #[.bool true, .slice A5 1 c5, .slice B5_ 1 d5] := hR 0 (by decide)
    have e1 : av.tmps.getD 21 undef = .agg #[.bool true, .slice (some ⟨w.heap.size, 0, none⟩) 1 1, .slice (some ⟨w.heap.size + 1, 0, none⟩) 1 1] := hR 1 (by decide)
    have e2 : av.tmps.getD 22 undef = .agg #[.bool true, .slice (some ⟨w.heap.size, 0, none⟩) 1 1, .slice (some ⟨w.heap.size + 1, 0, none⟩) 1 1] := hR 2 (by decide)
    have e3 : av.tmps.getD 23 undef = .bool true := hR 3 (by decide)
    rw [hF.fold (by kernel_rfl)]
    simp only [List.foldl_cons, List.foldl_nil, e0, e1, e2, e3]
    simp only [Act.put, List.setIfInBounds_toArray, List.set_cons_zero, List.set_cons_succ]
    change wpOps _ _ _ [4] _ _
    simp only [wpOps_cons]
    clear e0 e1 e2 e3 hR hF
    have R7 := Lib.hid (row_on R6.out hb')
    have B7 := Lib.hid (B6.out.trans (hb'.mono B6.out.size))
    have K7 := Lib.hid (And.intro (K6.out.1.below hb') (K6.out.2.below hb'))
    clear hb' R6 B6 K6 M6 FM FN RM
    try rw [wpOps_cons]
    simp only [wpOp, List.getElem?_toArray, List.getElem?_cons_succ, List.getElem?_cons_zero, Region.wanted, if_true]
    refine Or.inl ?_
    simp only [Oper.wp, execOp]
    go_simp
    try simp only [wpOps]
    have f0 := row_c R7.out (i := 0) rfl
    have f1 := row_c R7.out (i := 1) rfl
    have f2 := row_c R7.out (i := 2) rfl
    go_wp2_with fail
    refine (HZL.out _ _ _ _ _ K7.out.1).mono ?_
    rintro e w7 ⟨rfl, hb⟩
    have R8 := Lib.hid (row_on R7.out hb)
    have B8 := Lib.hid (B7.out.trans (hb.mono B7.out.size))
    have K8 := Lib.hid (And.intro (K7.out.1.below hb) (K7.out.2.below hb))
    clear hb f0 f1 f2
    have f0 := row_c R8.out (i := 0) rfl
    have f1 := row_c R8.out (i := 1) rfl
    have f2 := row_c R8.out (i := 2) rfl
    go_wp2_with fail
    refine (HC1.out _ _ _ _ _ K8.out.1).mono ?_
    rintro e w8 ⟨rfl, hb⟩
    have R9 := Lib.hid (row_on R8.out hb)
    have B9 := Lib.hid (B8.out.trans (hb.mono B8.out.size))
    have K9 := Lib.hid (And.intro (K8.out.1.below hb) (K8.out.2.below hb))
    clear hb f0 f1 f2
    have f0 := row_c R9.out (i := 0) rfl
    have f1 := row_c R9.out (i := 1) rfl
    have f2 := row_c R9.out (i := 2) rfl
    go_wp2_with fail
    refine (HC2.out _ _ _ _ _ K9.out.1).mono ?_
    rintro e w9 ⟨rfl, hb⟩
    have R10 := Lib.hid (row_on R9.out hb)
    have B10 := Lib.hid (B9.out.trans (hb.mono B9.out.size))
    have K10 := Lib.hid (And.intro (K9.out.1.below hb) (K9.out.2.below hb))
    clear hb f0 f1 f2
    go_wp2
    go_ret
    exact ⟨rfl, B10.out⟩
end Go.Proofs.Ytkbdcbcjbgbglaa
