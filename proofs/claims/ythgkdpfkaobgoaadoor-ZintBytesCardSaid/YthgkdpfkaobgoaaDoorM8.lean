import Derived.Test.YthgkdpfkaobgoaaDoorM7
section
/-
  The law ZintBytes of chapter 4, walked.
-/
namespace Go.Proofs.YthgkdpfkaobgoaaDoor
open Go.RowKit
set_option maxHeartbeats 16000000 in
set_option maxRecDepth 100000 in
theorem zlbytes_yn (Ax : Option Addr) (cx : Nat) (sx : Bool) (xsx : List Nat) (b : ByteArray) (lx : xsx.length ≤ 9223372036854775807) (hmax : b.data.toList.length ≤ 9223372036854775807) (r0 : rightB sx xsx = true) (r4 : xsx.length ≤ 400) (k0 : ¬ tkOk b.data.toList) (w : World) (hx : Dg w Ax cx xsx) (htab : P10 w) :
    Calls Tryd.prog 5 #[.agg #[.bool sx, .slice Ax xsx.length cx], .string b] w fun e w' => e = .returned (.bool true) ∧ Below w.heap.size w w' := by
  obtain ⟨tx, htx⟩ : ∃ t, xsx.take 12 = t := ⟨_, rfl⟩
  have blx : tx.length ≤ 12 := by rw [← htx]; exact List.length_take_le _ _
  have TTx := Lib.hid htx
  obtain ⟨vx, hvx⟩ := is_z (sg sx (val tx))
  have bzx : (digs vx.natAbs).length ≤ 12 := Nat.le_trans (zlen_raw (by rw [← htx]; exact (hx.take 12).2.1) hvx) blx
  have HVx := Lib.hid hvx
  clear hvx htx
  have LX := Lib.hid lx
  have HM := Lib.hid hmax
  have R0 := Lib.hid r0
  have K0 := Lib.hid k0
  have R4 := Lib.hid r4
  obtain ⟨bt, hbt⟩ : ∃ t, zbytes sx xsx = t := ⟨_, rfl⟩
  have HBT := Lib.hid hbt
  clear hbt r4
  clear lx hmax r0 k0
  obtain ⟨tt, htt⟩ : ∃ t, tz vx = t := ⟨_, rfl⟩
  have HTT := Lib.hid htt
  clear htt
  have lbx := Lib.hid (show (tx).length ≤ 100000 by omega)
  have lbx12 := Lib.hid (show tx.length ≤ 12 from blx)
  have HT := Lib.hid htab
  clear htab
  have EX := Lib.hid (fun V hv => examples_any V hv)
  go_enter Tryd.func5, Tryd.ntmps5
  go_upto_region 1 with fail
  obtain ⟨w0, hW⟩ : ∃ W : World, W = (w.alloc (.cells #[.bool sx, .slice Ax xsx.length cx] 24)) := ⟨_, rfl⟩
  rw [← hW]
  have hb : Below w.heap.size w w0 := by rw [hW]; exact below1 w _
  have L0 := Lib.hid (((((live_start w).step hb).add (hx.below hb)).add (show Dg w0 Ax cx tx by rw [← TTx.out]; exact (hx.below hb).take 12)))
  have Rx_0 := Lib.hid (show w0.heap[w.heap.size]? = some (.cells #[.bool sx, .slice Ax xsx.length cx] 24 (0, 0)) by rw [hW]; have := heap_alloc_new w (.cells #[.bool sx, .slice Ax xsx.length cx] 24); simpa using this)
  clear hW hb hx
  go_wp2_with fail
  refine (EX.out w0 (p10_below HT.out L0.out.1)).mono ?_
  rintro e w1 ⟨rfl, hb⟩
  have L1 := Lib.hid (L0.out.step hb)
  have Rx_1 := Lib.hid (cells_of Rx_0.out hb)
  clear hb 
  have fx0 := cell_of_row w1 _ 0 _ _ _ Rx_1.out
  have fx1 := cell_of_row w1 _ 1 _ _ _ Rx_1.out
  have xx := heap_lt Rx_1.out
  simp only [List.getElem?_toArray, List.getElem?_cons_zero, List.getElem?_cons_succ] at fx0 fx1
  go_wp2_with fail
  refine (zbytes_y (s := sx) (L1.out.get (A := Ax) (c := cx) (xs := xsx) (by simp)) R4.out R0.out HBT.out).mono ?_
  rintro e w2 ⟨rfl, hb⟩
  have L2 := Lib.hid (L1.out.step hb)
  have Rx_2 := Lib.hid (cells_of Rx_1.out hb)
  clear fx0 fx1 xx
  clear hb 
  have fx0 := cell_of_row w2 _ 0 _ _ _ Rx_2.out
  have fx1 := cell_of_row w2 _ 1 _ _ _ Rx_2.out
  have xx := heap_lt Rx_2.out
  simp only [List.getElem?_toArray, List.getElem?_cons_zero, List.getElem?_cons_succ] at fx0 fx1
  go_wp2_with fail
  refine (rzbytes_y (s := sx) (L2.out.get (A := Ax) (c := cx) (xs := xsx) (by simp)) R4.out R0.out HBT.out).mono ?_
  rintro e w3 ⟨rfl, hb⟩
  have L3 := Lib.hid (L2.out.step hb)
  have Rx_3 := Lib.hid (cells_of Rx_2.out hb)
  clear fx0 fx1 xx
  clear hb 
  go_wp2_with fail
  refine (ztake_n (l := b.data.toList) rfl HM.out K0.out).mono ?_
  rintro e w4 ⟨rfl, hb⟩
  have L4 := Lib.hid (L3.out.step hb)
  have Rx_4 := Lib.hid (cells_of Rx_3.out hb)
  clear hb 
  go_wp2_with fail
  have Lx5 := Lib.hid (L4.out.step (below1 w4 (.cells #[.bool false, .slice none 0 0] 24)))
  refine (rztake_n (l := b.data.toList) rfl HM.out K0.out).mono ?_
  rintro e w5 ⟨rfl, hb⟩
  have L5 := Lib.hid (Lx5.out.step hb)
  have Rx_5 := Lib.hid (cells_of (cells_of Rx_4.out (below1 w4 (.cells #[.bool false, .slice none 0 0] 24))) hb)
  have Ra_5 := Lib.hid (cells_of (heap_alloc_new w4 (.cells #[.bool false, .slice none 0 0] 24)) hb)
  clear hb 
  have fa0 := cell_of_row w5 _ 0 _ _ _ Ra_5.out
  have fa1 := cell_of_row w5 _ 1 _ _ _ Ra_5.out
  have xa := heap_lt Ra_5.out
  simp only [List.getElem?_toArray, List.getElem?_cons_zero, List.getElem?_cons_succ] at fa0 fa1
  go_wp2_with fail
  have Lx6 := Lib.hid (L5.out.step (below1 w5 (.cells #[.bool false, .slice none 0 0] 24)))
  refine (same_any none none 0 0 false [] _ (Dg.nil_ _ _) (Dg.nil_ _ _) (by simp)).mono ?_
  rintro e w6 ⟨rfl, hb⟩
  have L6 := Lib.hid (Lx6.out.step hb)
  have Rx_6 := Lib.hid (cells_of (cells_of Rx_5.out (below1 w5 (.cells #[.bool false, .slice none 0 0] 24))) hb)
  have Ra_6 := Lib.hid (cells_of (cells_of Ra_5.out (below1 w5 (.cells #[.bool false, .slice none 0 0] 24))) hb)
  clear fa0 fa1 xa
  have Rc_6 := Lib.hid (cells_of (heap_alloc_new w5 (.cells #[.bool false, .slice none 0 0] 24)) hb)
  clear hb 
  have fx0 := cell_of_row w6 _ 0 _ _ _ Rx_6.out
  have fx1 := cell_of_row w6 _ 1 _ _ _ Rx_6.out
  have xx := heap_lt Rx_6.out
  simp only [List.getElem?_toArray, List.getElem?_cons_zero, List.getElem?_cons_succ] at fx0 fx1
  go_wp2_with fail
  refine (lshort_v (s := sx) (L6.out.get (A := Ax) (c := cx) (xs := xsx) (by simp)) (by omega) TTx.out).mono ?_
  rintro e w7 ⟨rfl, hb⟩
  have L7 := Lib.hid (L6.out.step hb)
  have Rx_7 := Lib.hid (cells_of Rx_6.out hb)
  have Ra_7 := Lib.hid (cells_of Ra_6.out hb)
  have Rc_7 := Lib.hid (cells_of Rc_6.out hb)
  clear fx0 fx1 xx
  clear hb 
  go_wp2_with fail
  obtain ⟨w8, hW⟩ : ∃ W : World, W = (w7.alloc (.cells #[.bool sx, .slice Ax tx.length cx] 24)) := ⟨_, rfl⟩
  rw [← hW]
  have hb : Below w7.heap.size w7 w8 := by rw [hW]; exact below1 _ _
  have L8 := Lib.hid (L7.out.step hb)
  have Rx_8 := Lib.hid (cells_of Rx_7.out hb)
  have Ra_8 := Lib.hid (cells_of Ra_7.out hb)
  have Rc_8 := Lib.hid (cells_of Rc_7.out hb)
  have Ry_8 := Lib.hid (show w8.heap[w7.heap.size]? = some (.cells #[.bool sx, .slice Ax tx.length cx] 24 (0, 0)) by rw [hW]; exact heap_alloc_new _ _)
  clear hW hb
  refine wp_operands (W := w8) rfl 51 [48, 49, 50, 51, 52, 53, 54, 55, 56, 57, 58, 59, 60, 61, 62, 63, 64, 65, 66, 67, 68, 69, 70, 71, 72, 73, 74, 75, 76, 77, 78, 79, 80, 81, 82, 83, 84, 85, 86, 87, 88, 89, 90, 91, 92, 93, 94, 95, 96, 97, 98] (fun i u _ => match i with | 0 => u = .bool true | 1 => u = .bool true | 2 => u = .string ⟨bt.toArray⟩ | 3 => u = .string ⟨bt.toArray⟩ | 4 => u = .bool true | 5 => u = .bool true | 6 => u = .bool true | 7 => u = .bool true | 8 => u = .bool true | 9 => u = .int .i64 0 | 10 => u = .bool true | 11 => u = .bool true | 12 => u = .bool true | 13 => u = undef | 14 => u = undef | 15 => u = undef | 16 => u = undef | 17 => u = undef | 18 => u = undef | 19 => u = .bool true | 20 => u = .bool true | 21 => u = .bool true | 22 => u = .bool true | 23 => u = .bool true | 24 => u = .bool true | 25 => u = .string ⟨#[]⟩ | 26 => u = .string ⟨#[]⟩ | 27 => u = .bool true | 28 => u = .bool true | 29 => u = .bool true | 30 => u = .bool false | 31 => u = .bool false | 32 => u = undef | 33 => u = undef | 34 => u = .bool false | 35 => u = .bool false | 36 => u = .bool false | 37 => u = .bool true | 38 => u = .bool true | 39 => u = .int .i64 2 | 40 => u = .bool true | 41 => u = .bool true | 42 => u = .bool true | 43 => u = .bool true | 44 => u = .bool true | 45 => u = .agg #[.bool sx, .slice Ax tx.length cx] | 46 => u = .string ⟨tt.toArray⟩ | 47 => u = .agg #[.bool sx, .slice Ax tx.length cx] | 48 => u = .string ⟨tt.toArray⟩ | 49 => u = .bool true | 50 => u = .bool true | _ => True) (fun _ => false)
    (by decide) rfl (by kernel_rfl) (by kernel_rfl) (by decide) (by kernel_rfl) (fun _ _ _ _ _ h _ => h) (fun _ _ _ h => by cases h) ?_ ?_
  · intro i a x K hi hF hb hw hK
    have hi' : i = 0 ∨ i = 1 ∨ i = 2 ∨ i = 3 ∨ i = 4 ∨ i = 5 ∨ i = 6 ∨ i = 7 ∨ i = 8 ∨ i = 9 ∨ i = 10 ∨ i = 11 ∨ i = 12 ∨ i = 13 ∨ i = 14 ∨ i = 15 ∨ i = 16 ∨ i = 17 ∨ i = 18 ∨ i = 19 ∨ i = 20 ∨ i = 21 ∨ i = 22 ∨ i = 23 ∨ i = 24 ∨ i = 25 ∨ i = 26 ∨ i = 27 ∨ i = 28 ∨ i = 29 ∨ i = 30 ∨ i = 31 ∨ i = 32 ∨ i = 33 ∨ i = 34 ∨ i = 35 ∨ i = 36 ∨ i = 37 ∨ i = 38 ∨ i = 39 ∨ i = 40 ∨ i = 41 ∨ i = 42 ∨ i = 43 ∨ i = 44 ∨ i = 45 ∨ i = 46 ∨ i = 47 ∨ i = 48 ∨ i = 49 ∨ i = 50 := by omega
    rcases hi' with rfl | rfl | rfl | rfl | rfl | rfl | rfl | rfl | rfl | rfl | rfl | rfl | rfl | rfl | rfl | rfl | rfl | rfl | rfl | rfl | rfl | rfl | rfl | rfl | rfl | rfl | rfl | rfl | rfl | rfl | rfl | rfl | rfl | rfl | rfl | rfl | rfl | rfl | rfl | rfl | rfl | rfl | rfl | rfl | rfl | rfl | rfl | rfl | rfl | rfl | rfl
    · simp only [wpOp, List.getElem?_toArray, List.getElem?_cons_zero, Region.wanted, if_true]
      refine Or.inl ?_
      have e0 : a.eval (.tmp 5) = .bool true := hF.2.2 5 (by decide)
      clear hw hF
      simp only [Oper.wp, execOp]
      rw [e0]
      go_simp
      exact hK _ x (by first | rfl | simp) (Below.refl _ _) (fun h => by cases h)
    · simp only [wpOp, List.getElem?_toArray, List.getElem?_cons_succ, List.getElem?_cons_zero, Region.wanted, if_true]
      refine Or.inl ?_
      have e0 : a.tmps.getD 48 undef = .bool true := hw 0 (by kernel_rfl)
      clear hw hF
      simp only [Oper.wp, execOp]
      go_simp
      exact hK _ x (by first | rfl | simp) (Below.refl _ _) (fun h => by cases h)
    · simp only [wpOp, List.getElem?_toArray, List.getElem?_cons_succ, List.getElem?_cons_zero]
      have eg : a.tmps.getD 49 undef = .bool true := hw 1 (by kernel_rfl)
      refine ite_yes (wanted_yes rfl (yielded_of (t := 49) (by kernel_rfl) eg)) ?_
      clear eg
      refine Or.inl ?_
      have e0 : a.eval (.tmp 6) = .string ⟨bt.toArray⟩ := hF.2.2 6 (by decide)
      clear hw hF
      simp only [Oper.wp, execOp]
      rw [e0]
      go_simp
      exact hK _ x (by first | rfl | simp) (Below.refl _ _) (fun h => by cases h)
    · simp only [wpOp, List.getElem?_toArray, List.getElem?_cons_succ, List.getElem?_cons_zero]
      have eg : a.tmps.getD 49 undef = .bool true := hw 1 (by kernel_rfl)
      refine ite_yes (wanted_yes rfl (yielded_of (t := 49) (by kernel_rfl) eg)) ?_
      clear eg
      refine Or.inl ?_
      have e0 : a.eval (.tmp 8) = .string ⟨bt.toArray⟩ := hF.2.2 8 (by decide)
      clear hw hF
      simp only [Oper.wp, execOp]
      rw [e0]
      go_simp
      exact hK _ x (by first | rfl | simp) (Below.refl _ _) (fun h => by cases h)
    · simp only [wpOp, List.getElem?_toArray, List.getElem?_cons_succ, List.getElem?_cons_zero]
      have eg : a.tmps.getD 49 undef = .bool true := hw 1 (by kernel_rfl)
      refine ite_yes (wanted_yes rfl (yielded_of (t := 49) (by kernel_rfl) eg)) ?_
      clear eg
      refine Or.inl ?_
      have e0 : a.tmps.getD 50 undef = .string ⟨bt.toArray⟩ := hw 2 (by kernel_rfl)
      have e1 : a.tmps.getD 51 undef = .string ⟨bt.toArray⟩ := hw 3 (by kernel_rfl)
      clear hw hF
      simp only [Oper.wp, execOp]
      go_simp
      exact hK _ x (by first | rfl | simp) (Below.refl _ _) (fun h => by cases h)
    · simp only [wpOp, List.getElem?_toArray, List.getElem?_cons_succ, List.getElem?_cons_zero, Region.wanted, if_true]
      refine Or.inl ?_
      have e0 : a.tmps.getD 49 undef = .bool true := hw 1 (by kernel_rfl)
      have e1 : a.tmps.getD 52 undef = .bool true := hw 4 (by kernel_rfl)
      clear hw hF
      simp only [Oper.wp, execOp]
      go_simp
      exact hK _ x (by first | rfl | simp) (Below.refl _ _) (fun h => by cases h)
    · simp only [wpOp, List.getElem?_toArray, List.getElem?_cons_succ, List.getElem?_cons_zero, Region.wanted, if_true]
      refine Or.inl ?_
      have e0 : a.tmps.getD 53 undef = .bool true := hw 5 (by kernel_rfl)
      clear hw hF
      simp only [Oper.wp, execOp]
      go_simp
      exact hK _ x (by first | rfl | simp) (Below.refl _ _) (fun h => by cases h)
    · simp only [wpOp, List.getElem?_toArray, List.getElem?_cons_succ, List.getElem?_cons_zero]
      have eg : a.tmps.getD 54 undef = .bool true := hw 6 (by kernel_rfl)
      refine ite_yes (wanted_yes rfl (yielded_of (t := 54) (by kernel_rfl) eg)) ?_
      clear eg
      refine Or.inl ?_
      have e0 : a.eval (.tmp 9) = .bool true := hF.2.2 9 (by decide)
      clear hw hF
      simp only [Oper.wp, execOp]
      rw [e0]
      go_simp
      exact hK _ x (by first | rfl | simp) (Below.refl _ _) (fun h => by cases h)
    · simp only [wpOp, List.getElem?_toArray, List.getElem?_cons_succ, List.getElem?_cons_zero]
      have eg : a.tmps.getD 54 undef = .bool true := hw 6 (by kernel_rfl)
      refine ite_yes (wanted_yes rfl (yielded_of (t := 54) (by kernel_rfl) eg)) ?_
      clear eg
      refine Or.inl ?_
      have e0 : a.tmps.getD 55 undef = .bool true := hw 7 (by kernel_rfl)
      clear hw hF
      simp only [Oper.wp, execOp]
      go_simp
      exact hK _ x (by first | rfl | simp) (Below.refl _ _) (fun h => by cases h)
    · simp only [wpOp, List.getElem?_toArray, List.getElem?_cons_succ, List.getElem?_cons_zero]
      have eg : a.tmps.getD 56 undef = .bool true := hw 8 (by kernel_rfl)
      refine ite_yes (wanted_yes rfl (yielded_of (t := 56) (by kernel_rfl) eg)) ?_
      clear eg
      refine Or.inl ?_
      have e0 : a.eval (.tmp 7) = .int .i64 0 := hF.2.2 7 (by decide)
      clear hw hF
      simp only [Oper.wp, execOp]
      rw [e0]
      go_simp
      exact hK _ x (by first | rfl | simp) (Below.refl _ _) (fun h => by cases h)
    · simp only [wpOp, List.getElem?_toArray, List.getElem?_cons_succ, List.getElem?_cons_zero]
      have eg : a.tmps.getD 56 undef = .bool true := hw 8 (by kernel_rfl)
      refine ite_yes (wanted_yes rfl (yielded_of (t := 56) (by kernel_rfl) eg)) ?_
      clear eg
      refine Or.inl ?_
      have e0 : a.tmps.getD 57 undef = .int .i64 0 := hw 9 (by kernel_rfl)
      clear hw hF
      simp only [Oper.wp, execOp]
      go_simp
      exact hK _ x (by first | rfl | simp) (Below.refl _ _) (fun h => by cases h)
    · simp only [wpOp, List.getElem?_toArray, List.getElem?_cons_succ, List.getElem?_cons_zero]
      have eg : a.tmps.getD 54 undef = .bool true := hw 6 (by kernel_rfl)
      refine ite_yes (wanted_yes rfl (yielded_of (t := 54) (by kernel_rfl) eg)) ?_
      clear eg
      refine Or.inl ?_
      have e0 : a.tmps.getD 56 undef = .bool true := hw 8 (by kernel_rfl)
      have e1 : a.tmps.getD 58 undef = .bool true := hw 10 (by kernel_rfl)
      clear hw hF
      simp only [Oper.wp, execOp]
      go_simp
      exact hK _ x (by first | rfl | simp) (Below.refl _ _) (fun h => by cases h)
    · simp only [wpOp, List.getElem?_toArray, List.getElem?_cons_succ, List.getElem?_cons_zero]
      have eg : a.tmps.getD 54 undef = .bool true := hw 6 (by kernel_rfl)
      refine ite_yes (wanted_yes rfl (yielded_of (t := 54) (by kernel_rfl) eg)) ?_
      clear eg
      refine Or.inl ?_
      have e0 : a.tmps.getD 59 undef = .bool true := hw 11 (by kernel_rfl)
      clear hw hF
      simp only [Oper.wp, execOp]
      go_simp
      exact hK _ x (by first | rfl | simp) (Below.refl _ _) (fun h => by cases h)
    · simp only [wpOp, List.getElem?_toArray, List.getElem?_cons_succ, List.getElem?_cons_zero]
      have eg : a.tmps.getD 60 undef = .bool true := hw 12 (by kernel_rfl)
      refine ite_not (wanted_not rfl (yielded_of (t := 60) (by kernel_rfl) eg)) ?_
      exact hK _ x rfl (Below.refl _ _) (fun h => by cases h)
    · simp only [wpOp, List.getElem?_toArray, List.getElem?_cons_succ, List.getElem?_cons_zero]
      have eg : a.tmps.getD 60 undef = .bool true := hw 12 (by kernel_rfl)
      refine ite_not (wanted_not rfl (yielded_of (t := 60) (by kernel_rfl) eg)) ?_
      exact hK _ x rfl (Below.refl _ _) (fun h => by cases h)
    · simp only [wpOp, List.getElem?_toArray, List.getElem?_cons_succ, List.getElem?_cons_zero]
      have eg : a.tmps.getD 60 undef = .bool true := hw 12 (by kernel_rfl)
      refine ite_not (wanted_not rfl (yielded_of (t := 60) (by kernel_rfl) eg)) ?_
      exact hK _ x rfl (Below.refl _ _) (fun h => by cases h)
    · simp only [wpOp, List.getElem?_toArray, List.getElem?_cons_succ, List.getElem?_cons_zero]
      have eg : a.tmps.getD 63 undef = undef := hw 15 (by kernel_rfl)
      refine ite_not (wanted_none rfl (yielded_none (t := 63) (by kernel_rfl) eg)) ?_
      exact hK _ x rfl (Below.refl _ _) (fun h => by cases h)
    · simp only [wpOp, List.getElem?_toArray, List.getElem?_cons_succ, List.getElem?_cons_zero]
      have eg : a.tmps.getD 63 undef = undef := hw 15 (by kernel_rfl)
      refine ite_not (wanted_none rfl (yielded_none (t := 63) (by kernel_rfl) eg)) ?_
      exact hK _ x rfl (Below.refl _ _) (fun h => by cases h)
    · simp only [wpOp, List.getElem?_toArray, List.getElem?_cons_succ, List.getElem?_cons_zero]
      have eg : a.tmps.getD 60 undef = .bool true := hw 12 (by kernel_rfl)
      refine ite_not (wanted_not rfl (yielded_of (t := 60) (by kernel_rfl) eg)) ?_
      exact hK _ x rfl (Below.refl _ _) (fun h => by cases h)
    · simp only [wpOp, List.getElem?_toArray, List.getElem?_cons_succ, List.getElem?_cons_zero]
      have eg : a.tmps.getD 54 undef = .bool true := hw 6 (by kernel_rfl)
      refine ite_yes (wanted_yes rfl (yielded_of (t := 54) (by kernel_rfl) eg)) ?_
      clear eg
      refine Or.inl ?_
      have e0 : a.tmps.getD 60 undef = .bool true := hw 12 (by kernel_rfl)
      have e1 : a.tmps.getD 66 undef = undef := hw 18 (by kernel_rfl)
      clear hw hF
      simp only [Oper.wp, execOp]
      go_simp
      exact hK _ x (by first | rfl | simp) (Below.refl _ _) (fun h => by cases h)
    · simp only [wpOp, List.getElem?_toArray, List.getElem?_cons_succ, List.getElem?_cons_zero, Region.wanted, if_true]
      refine Or.inl ?_
      have e0 : a.tmps.getD 54 undef = .bool true := hw 6 (by kernel_rfl)
      have e1 : a.tmps.getD 67 undef = .bool true := hw 19 (by kernel_rfl)
      clear hw hF
      simp only [Oper.wp, execOp]
      go_simp
      exact hK _ x (by first | rfl | simp) (Below.refl _ _) (fun h => by cases h)
    · simp only [wpOp, List.getElem?_toArray, List.getElem?_cons_succ, List.getElem?_cons_zero, Region.wanted, if_true]
      refine Or.inl ?_
      have e0 : a.tmps.getD 68 undef = .bool true := hw 20 (by kernel_rfl)
      clear hw hF
      simp only [Oper.wp, execOp]
      go_simp
      exact hK _ x (by first | rfl | simp) (Below.refl _ _) (fun h => by cases h)
    · simp only [wpOp, List.getElem?_toArray, List.getElem?_cons_succ, List.getElem?_cons_zero]
      have eg : a.tmps.getD 69 undef = .bool true := hw 21 (by kernel_rfl)
      refine ite_yes (wanted_yes rfl (yielded_of (t := 69) (by kernel_rfl) eg)) ?_
      clear eg
      refine Or.inl ?_
      have e0 : a.eval (.tmp 16) = .bool true := hF.2.2 16 (by decide)
      clear hw hF
      simp only [Oper.wp, execOp]
      rw [e0]
      go_simp
      exact hK _ x (by first | rfl | simp) (Below.refl _ _) (fun h => by cases h)
    · simp only [wpOp, List.getElem?_toArray, List.getElem?_cons_succ, List.getElem?_cons_zero, Region.wanted, if_true]
      refine Or.inl ?_
      have e0 : a.tmps.getD 69 undef = .bool true := hw 21 (by kernel_rfl)
      have e1 : a.tmps.getD 70 undef = .bool true := hw 22 (by kernel_rfl)
      clear hw hF
      simp only [Oper.wp, execOp]
      go_simp
      exact hK _ x (by first | rfl | simp) (Below.refl _ _) (fun h => by cases h)
    · simp only [wpOp, List.getElem?_toArray, List.getElem?_cons_succ, List.getElem?_cons_zero, Region.wanted, if_true]
      refine Or.inl ?_
      have e0 : a.tmps.getD 71 undef = .bool true := hw 23 (by kernel_rfl)
      clear hw hF
      simp only [Oper.wp, execOp]
      go_simp
      exact hK _ x (by first | rfl | simp) (Below.refl _ _) (fun h => by cases h)
    · simp only [wpOp, List.getElem?_toArray, List.getElem?_cons_succ, List.getElem?_cons_zero]
      have eg : a.tmps.getD 72 undef = .bool true := hw 24 (by kernel_rfl)
      refine ite_yes (wanted_yes rfl (yielded_of (t := 72) (by kernel_rfl) eg)) ?_
      clear eg
      refine Or.inl ?_
      have e0 : a.eval (.tmp 11) = .string ⟨#[]⟩ := hF.2.2 11 (by decide)
      clear hw hF
      simp only [Oper.wp, execOp]
      rw [e0]
      go_simp
      exact hK _ x (by first | rfl | simp) (Below.refl _ _) (fun h => by cases h)
    · simp only [wpOp, List.getElem?_toArray, List.getElem?_cons_succ, List.getElem?_cons_zero]
      have eg : a.tmps.getD 72 undef = .bool true := hw 24 (by kernel_rfl)
      refine ite_yes (wanted_yes rfl (yielded_of (t := 72) (by kernel_rfl) eg)) ?_
      clear eg
      refine Or.inl ?_
      have e0 : a.eval (.tmp 14) = .string ⟨#[]⟩ := hF.2.2 14 (by decide)
      clear hw hF
      simp only [Oper.wp, execOp]
      rw [e0]
      go_simp
      exact hK _ x (by first | rfl | simp) (Below.refl _ _) (fun h => by cases h)
    · simp only [wpOp, List.getElem?_toArray, List.getElem?_cons_succ, List.getElem?_cons_zero]
      have eg : a.tmps.getD 72 undef = .bool true := hw 24 (by kernel_rfl)
      refine ite_yes (wanted_yes rfl (yielded_of (t := 72) (by kernel_rfl) eg)) ?_
      clear eg
      refine Or.inl ?_
      have e0 : a.tmps.getD 73 undef = .string ⟨#[]⟩ := hw 25 (by kernel_rfl)
      have e1 : a.tmps.getD 74 undef = .string ⟨#[]⟩ := hw 26 (by kernel_rfl)
      clear hw hF
      simp only [Oper.wp, execOp]
      go_simp
      exact hK _ x (by first | rfl | simp) (Below.refl _ _) (fun h => by cases h)
    · simp only [wpOp, List.getElem?_toArray, List.getElem?_cons_succ, List.getElem?_cons_zero, Region.wanted, if_true]
      refine Or.inl ?_
      have e0 : a.tmps.getD 72 undef = .bool true := hw 24 (by kernel_rfl)
      have e1 : a.tmps.getD 75 undef = .bool true := hw 27 (by kernel_rfl)
      clear hw hF
      simp only [Oper.wp, execOp]
      go_simp
      exact hK _ x (by first | rfl | simp) (Below.refl _ _) (fun h => by cases h)
    · simp only [wpOp, List.getElem?_toArray, List.getElem?_cons_succ, List.getElem?_cons_zero, Region.wanted, if_true]
      refine Or.inl ?_
      have e0 : a.tmps.getD 76 undef = .bool true := hw 28 (by kernel_rfl)
      clear hw hF
      simp only [Oper.wp, execOp]
      go_simp
      exact hK _ x (by first | rfl | simp) (Below.refl _ _) (fun h => by cases h)
    · simp only [wpOp, List.getElem?_toArray, List.getElem?_cons_succ, List.getElem?_cons_zero]
      have eg : a.tmps.getD 77 undef = .bool true := hw 29 (by kernel_rfl)
      refine ite_yes (wanted_yes rfl (yielded_of (t := 77) (by kernel_rfl) eg)) ?_
      clear eg
      refine Or.inl ?_
      have e0 : a.eval (.tmp 15) = .bool false := hF.2.2 15 (by decide)
      clear hw hF
      simp only [Oper.wp, execOp]
      rw [e0]
      go_simp
      exact hK _ x (by first | rfl | simp) (Below.refl _ _) (fun h => by cases h)
    · simp only [wpOp, List.getElem?_toArray, List.getElem?_cons_succ, List.getElem?_cons_zero]
      have eg : a.tmps.getD 77 undef = .bool true := hw 29 (by kernel_rfl)
      refine ite_yes (wanted_yes rfl (yielded_of (t := 77) (by kernel_rfl) eg)) ?_
      clear eg
      refine Or.inl ?_
      have e0 : a.tmps.getD 78 undef = .bool false := hw 30 (by kernel_rfl)
      clear hw hF
      simp only [Oper.wp, execOp]
      go_simp
      exact hK _ x (by first | rfl | simp) (Below.refl _ _) (fun h => by cases h)
    · simp only [wpOp, List.getElem?_toArray, List.getElem?_cons_succ, List.getElem?_cons_zero]
      have eg : a.tmps.getD 79 undef = .bool false := hw 31 (by kernel_rfl)
      refine ite_not (wanted_not rfl (yielded_of (t := 79) (by kernel_rfl) eg)) ?_
      exact hK _ x rfl (Below.refl _ _) (fun h => by cases h)
    · simp only [wpOp, List.getElem?_toArray, List.getElem?_cons_succ, List.getElem?_cons_zero]
      have eg : a.tmps.getD 79 undef = .bool false := hw 31 (by kernel_rfl)
      refine ite_not (wanted_not rfl (yielded_of (t := 79) (by kernel_rfl) eg)) ?_
      exact hK _ x rfl (Below.refl _ _) (fun h => by cases h)
    · simp only [wpOp, List.getElem?_toArray, List.getElem?_cons_succ, List.getElem?_cons_zero]
      have eg : a.tmps.getD 77 undef = .bool true := hw 29 (by kernel_rfl)
      refine ite_yes (wanted_yes rfl (yielded_of (t := 77) (by kernel_rfl) eg)) ?_
      clear eg
      refine Or.inl ?_
      have e0 : a.tmps.getD 79 undef = .bool false := hw 31 (by kernel_rfl)
      have e1 : a.tmps.getD 81 undef = undef := hw 33 (by kernel_rfl)
      clear hw hF
      simp only [Oper.wp, execOp]
      go_simp
      exact hK _ x (by first | rfl | simp) (Below.refl _ _) (fun h => by cases h)
    · simp only [wpOp, List.getElem?_toArray, List.getElem?_cons_succ, List.getElem?_cons_zero]
      have eg : a.tmps.getD 77 undef = .bool true := hw 29 (by kernel_rfl)
      refine ite_yes (wanted_yes rfl (yielded_of (t := 77) (by kernel_rfl) eg)) ?_
      clear eg
      refine Or.inl ?_
      have e0 : a.tmps.getD 82 undef = .bool false := hw 34 (by kernel_rfl)
      clear hw hF
      simp only [Oper.wp, execOp]
      go_simp
      exact hK _ x (by first | rfl | simp) (Below.refl _ _) (fun h => by cases h)
    · simp only [wpOp, List.getElem?_toArray, List.getElem?_cons_succ, List.getElem?_cons_zero]
      have eg : a.tmps.getD 83 undef = .bool false := hw 35 (by kernel_rfl)
      refine ite_yes (wanted_yes rfl (yielded_of (t := 83) (by kernel_rfl) eg)) ?_
      clear eg
      refine Or.inl ?_
      have e0 : a.eval (.tmp 15) = .bool false := hF.2.2 15 (by decide)
      clear hw hF
      simp only [Oper.wp, execOp]
      rw [e0]
      go_simp
      exact hK _ x (by first | rfl | simp) (Below.refl _ _) (fun h => by cases h)
    · simp only [wpOp, List.getElem?_toArray, List.getElem?_cons_succ, List.getElem?_cons_zero]
      have eg : a.tmps.getD 83 undef = .bool false := hw 35 (by kernel_rfl)
      refine ite_yes (wanted_yes rfl (yielded_of (t := 83) (by kernel_rfl) eg)) ?_
      clear eg
      refine Or.inl ?_
      have e0 : a.tmps.getD 84 undef = .bool false := hw 36 (by kernel_rfl)
      clear hw hF
      simp only [Oper.wp, execOp]
      go_simp
      exact hK _ x (by first | rfl | simp) (Below.refl _ _) (fun h => by cases h)
    · simp only [wpOp, List.getElem?_toArray, List.getElem?_cons_succ, List.getElem?_cons_zero]
      have eg : a.tmps.getD 83 undef = .bool false := hw 35 (by kernel_rfl)
      refine ite_yes (wanted_yes rfl (yielded_of (t := 83) (by kernel_rfl) eg)) ?_
      clear eg
      refine Or.inl ?_
      have e0 : a.tmps.getD 85 undef = .bool true := hw 37 (by kernel_rfl)
      clear hw hF
      simp only [Oper.wp, execOp]
      go_simp
      exact hK _ x (by first | rfl | simp) (Below.refl _ _) (fun h => by cases h)
    · simp only [wpOp, List.getElem?_toArray, List.getElem?_cons_succ, List.getElem?_cons_zero]
      have eg : a.tmps.getD 86 undef = .bool true := hw 38 (by kernel_rfl)
      refine ite_yes (wanted_yes rfl (yielded_of (t := 86) (by kernel_rfl) eg)) ?_
      clear eg
      refine Or.inl ?_
      have e0 : a.eval (.tmp 12) = .int .i64 2 := hF.2.2 12 (by decide)
      clear hw hF
      simp only [Oper.wp, execOp]
      rw [e0]
      go_simp
      exact hK _ x (by first | rfl | simp) (Below.refl _ _) (fun h => by cases h)
    · simp only [wpOp, List.getElem?_toArray, List.getElem?_cons_succ, List.getElem?_cons_zero]
      have eg : a.tmps.getD 86 undef = .bool true := hw 38 (by kernel_rfl)
      refine ite_yes (wanted_yes rfl (yielded_of (t := 86) (by kernel_rfl) eg)) ?_
      clear eg
      refine Or.inl ?_
      have e0 : a.tmps.getD 87 undef = .int .i64 2 := hw 39 (by kernel_rfl)
      clear hw hF
      simp only [Oper.wp, execOp]
      go_simp
      exact hK _ x (by first | rfl | simp) (Below.refl _ _) (fun h => by cases h)
    · simp only [wpOp, List.getElem?_toArray, List.getElem?_cons_succ, List.getElem?_cons_zero]
      have eg : a.tmps.getD 83 undef = .bool false := hw 35 (by kernel_rfl)
      refine ite_yes (wanted_yes rfl (yielded_of (t := 83) (by kernel_rfl) eg)) ?_
      clear eg
      refine Or.inl ?_
      have e0 : a.tmps.getD 86 undef = .bool true := hw 38 (by kernel_rfl)
      have e1 : a.tmps.getD 88 undef = .bool true := hw 40 (by kernel_rfl)
      clear hw hF
      simp only [Oper.wp, execOp]
      go_simp
      exact hK _ x (by first | rfl | simp) (Below.refl _ _) (fun h => by cases h)
    · simp only [wpOp, List.getElem?_toArray, List.getElem?_cons_succ, List.getElem?_cons_zero]
      have eg : a.tmps.getD 77 undef = .bool true := hw 29 (by kernel_rfl)
      refine ite_yes (wanted_yes rfl (yielded_of (t := 77) (by kernel_rfl) eg)) ?_
      clear eg
      refine Or.inl ?_
      have e0 : a.tmps.getD 83 undef = .bool false := hw 35 (by kernel_rfl)
      have e1 : a.tmps.getD 89 undef = .bool true := hw 41 (by kernel_rfl)
      clear hw hF
      simp only [Oper.wp, execOp]
      go_simp
      exact hK _ x (by first | rfl | simp) (Below.refl _ _) (fun h => by cases h)
    · simp only [wpOp, List.getElem?_toArray, List.getElem?_cons_succ, List.getElem?_cons_zero, Region.wanted, if_true]
      refine Or.inl ?_
      have e0 : a.tmps.getD 77 undef = .bool true := hw 29 (by kernel_rfl)
      have e1 : a.tmps.getD 90 undef = .bool true := hw 42 (by kernel_rfl)
      clear hw hF
      simp only [Oper.wp, execOp]
      go_simp
      exact hK _ x (by first | rfl | simp) (Below.refl _ _) (fun h => by cases h)
    · simp only [wpOp, List.getElem?_toArray, List.getElem?_cons_succ, List.getElem?_cons_zero, Region.wanted, if_true]
      refine Or.inl ?_
      have e0 : a.tmps.getD 91 undef = .bool true := hw 43 (by kernel_rfl)
      clear hw hF
      simp only [Oper.wp, execOp]
      go_simp
      exact hK _ x (by first | rfl | simp) (Below.refl _ _) (fun h => by cases h)
    · simp only [wpOp, List.getElem?_toArray, List.getElem?_cons_succ, List.getElem?_cons_zero]
      have eg : a.tmps.getD 92 undef = .bool true := hw 44 (by kernel_rfl)
      refine ite_yes (wanted_yes rfl (yielded_of (t := 92) (by kernel_rfl) eg)) ?_
      clear eg
      refine Or.inl ?_
      have e0 : a.eval (.tmp 17) = .pointer (some ⟨w7.heap.size, 0, none⟩) := hF.2.2 17 (by decide)
      have f0 := row_cell Ry_8.out hb 0
      have f1 := row_cell Ry_8.out hb 1
      simp only [List.getElem?_toArray, List.getElem?_cons_succ, List.getElem?_cons_zero] at f0 f1
      clear hw hF
      simp only [Oper.wp, execOp]
      rw [e0]
      go_simp
      exact hK _ x (by first | rfl | simp) (Below.refl _ _) (fun h => by cases h)
    · simp only [wpOp, List.getElem?_toArray, List.getElem?_cons_succ, List.getElem?_cons_zero]
      have eg : a.tmps.getD 92 undef = .bool true := hw 44 (by kernel_rfl)
      refine ite_yes (wanted_yes rfl (yielded_of (t := 92) (by kernel_rfl) eg)) ?_
      clear eg
      refine Or.inl ?_
      have e0 : a.tmps.getD 93 undef = .agg #[.bool sx, .slice Ax tx.length cx] := hw 45 (by kernel_rfl)
      clear hw hF
      simp only [Oper.wp, execOp]
      go_simp
      refine (ztext_z ((L8.out.step hb).get (A := Ax) (c := cx) (xs := tx) (by simp)) HVx.out (Nat.le_trans lbx12.out (by omega)) (p10_below HT.out (L8.out.step hb).1) HTT.out).mono ?_
      rintro e y ⟨rfl, hbb⟩
      exact hK _ y rfl hbb (fun h => by cases h)
    · simp only [wpOp, List.getElem?_toArray, List.getElem?_cons_succ, List.getElem?_cons_zero]
      have eg : a.tmps.getD 92 undef = .bool true := hw 44 (by kernel_rfl)
      refine ite_yes (wanted_yes rfl (yielded_of (t := 92) (by kernel_rfl) eg)) ?_
      clear eg
      refine Or.inl ?_
      have e0 : a.eval (.tmp 17) = .pointer (some ⟨w7.heap.size, 0, none⟩) := hF.2.2 17 (by decide)
      have f0 := row_cell Ry_8.out hb 0
      have f1 := row_cell Ry_8.out hb 1
      simp only [List.getElem?_toArray, List.getElem?_cons_succ, List.getElem?_cons_zero] at f0 f1
      clear hw hF
      simp only [Oper.wp, execOp]
      rw [e0]
      go_simp
      exact hK _ x (by first | rfl | simp) (Below.refl _ _) (fun h => by cases h)
    · simp only [wpOp, List.getElem?_toArray, List.getElem?_cons_succ, List.getElem?_cons_zero]
      have eg : a.tmps.getD 92 undef = .bool true := hw 44 (by kernel_rfl)
      refine ite_yes (wanted_yes rfl (yielded_of (t := 92) (by kernel_rfl) eg)) ?_
      clear eg
      refine Or.inl ?_
      have e0 : a.tmps.getD 95 undef = .agg #[.bool sx, .slice Ax tx.length cx] := hw 47 (by kernel_rfl)
      clear hw hF
      simp only [Oper.wp, execOp]
      go_simp
      refine (rtext_z ((L8.out.step hb).get (A := Ax) (c := cx) (xs := tx) (by simp)) HVx.out (Nat.le_trans lbx12.out (by omega)) HTT.out).mono ?_
      rintro e y ⟨rfl, hbb⟩
      exact hK _ y rfl hbb (fun h => by cases h)
    · simp only [wpOp, List.getElem?_toArray, List.getElem?_cons_succ, List.getElem?_cons_zero]
      have eg : a.tmps.getD 92 undef = .bool true := hw 44 (by kernel_rfl)
      refine ite_yes (wanted_yes rfl (yielded_of (t := 92) (by kernel_rfl) eg)) ?_
      clear eg
      refine Or.inl ?_
      have e0 : a.tmps.getD 94 undef = .string ⟨tt.toArray⟩ := hw 46 (by kernel_rfl)
      have e1 : a.tmps.getD 96 undef = .string ⟨tt.toArray⟩ := hw 48 (by kernel_rfl)
      clear hw hF
      simp only [Oper.wp, execOp]
      go_simp
      exact hK _ x (by first | rfl | simp) (Below.refl _ _) (fun h => by cases h)
    · simp only [wpOp, List.getElem?_toArray, List.getElem?_cons_succ, List.getElem?_cons_zero, Region.wanted, if_true]
      refine Or.inl ?_
      have e0 : a.tmps.getD 92 undef = .bool true := hw 44 (by kernel_rfl)
      have e1 : a.tmps.getD 97 undef = .bool true := hw 49 (by kernel_rfl)
      clear hw hF
      simp only [Oper.wp, execOp]
      go_simp
      exact hK _ x (by first | rfl | simp) (Below.refl _ _) (fun h => by cases h)
  · intro a x hF hb hR _
    have e0 : a.tmps.getD 48 undef = .bool true := hR 0 (by decide)
    have e1 : a.tmps.getD 49 undef = .bool true := hR 1 (by decide)
    have e2 : a.tmps.getD 50 undef = .string ⟨bt.toArray⟩ := hR 2 (by decide)
    have e3 : a.tmps.getD 51 undef = .string ⟨bt.toArray⟩ := hR 3 (by decide)
    have e4 : a.tmps.getD 52 undef = .bool true := hR 4 (by decide)
    have e5 : a.tmps.getD 53 undef = .bool true := hR 5 (by decide)
    have e6 : a.tmps.getD 54 undef = .bool true := hR 6 (by decide)
    have e7 : a.tmps.getD 55 undef = .bool true := hR 7 (by decide)
    have e8 : a.tmps.getD 56 undef = .bool true := hR 8 (by decide)
    have e9 : a.tmps.getD 57 undef = .int .i64 0 := hR 9 (by decide)
    have e10 : a.tmps.getD 58 undef = .bool true := hR 10 (by decide)
    have e11 : a.tmps.getD 59 undef = .bool true := hR 11 (by decide)
    have e12 : a.tmps.getD 60 undef = .bool true := hR 12 (by decide)
    have e13 : a.tmps.getD 61 undef = undef := hR 13 (by decide)
    have e14 : a.tmps.getD 62 undef = undef := hR 14 (by decide)
    have e15 : a.tmps.getD 63 undef = undef := hR 15 (by decide)
    have e16 : a.tmps.getD 64 undef = undef := hR 16 (by decide)
    have e17 : a.tmps.getD 65 undef = undef := hR 17 (by decide)
    have e18 : a.tmps.getD 66 undef = undef := hR 18 (by decide)
    have e19 : a.tmps.getD 67 undef = .bool true := hR 19 (by decide)
    have e20 : a.tmps.getD 68 undef = .bool true := hR 20 (by decide)
    have e21 : a.tmps.getD 69 undef = .bool true := hR 21 (by decide)
    have e22 : a.tmps.getD 70 undef = .bool true := hR 22 (by decide)
    have e23 : a.tmps.getD 71 undef = .bool true := hR 23 (by decide)
    have e24 : a.tmps.getD 72 undef = .bool true := hR 24 (by decide)
    have e25 : a.tmps.getD 73 undef = .string ⟨#[]⟩ := hR 25 (by decide)
    have e26 : a.tmps.getD 74 undef = .string ⟨#[]⟩ := hR 26 (by decide)
    have e27 : a.tmps.getD 75 undef = .bool true := hR 27 (by decide)
    have e28 : a.tmps.getD 76 undef = .bool true := hR 28 (by decide)
    have e29 : a.tmps.getD 77 undef = .bool true := hR 29 (by decide)
    have e30 : a.tmps.getD 78 undef = .bool false := hR 30 (by decide)
    have e31 : a.tmps.getD 79 undef = .bool false := hR 31 (by decide)
    have e32 : a.tmps.getD 80 undef = undef := hR 32 (by decide)
    have e33 : a.tmps.getD 81 undef = undef := hR 33 (by decide)
    have e34 : a.tmps.getD 82 undef = .bool false := hR 34 (by decide)
    have e35 : a.tmps.getD 83 undef = .bool false := hR 35 (by decide)
    have e36 : a.tmps.getD 84 undef = .bool false := hR 36 (by decide)
    have e37 : a.tmps.getD 85 undef = .bool true := hR 37 (by decide)
    have e38 : a.tmps.getD 86 undef = .bool true := hR 38 (by decide)
    have e39 : a.tmps.getD 87 undef = .int .i64 2 := hR 39 (by decide)
    have e40 : a.tmps.getD 88 undef = .bool true := hR 40 (by decide)
    have e41 : a.tmps.getD 89 undef = .bool true := hR 41 (by decide)
    have e42 : a.tmps.getD 90 undef = .bool true := hR 42 (by decide)
    have e43 : a.tmps.getD 91 undef = .bool true := hR 43 (by decide)
    have e44 : a.tmps.getD 92 undef = .bool true := hR 44 (by decide)
    have e45 : a.tmps.getD 93 undef = .agg #[.bool sx, .slice Ax tx.length cx] := hR 45 (by decide)
    have e46 : a.tmps.getD 94 undef = .string ⟨tt.toArray⟩ := hR 46 (by decide)
    have e47 : a.tmps.getD 95 undef = .agg #[.bool sx, .slice Ax tx.length cx] := hR 47 (by decide)
    have e48 : a.tmps.getD 96 undef = .string ⟨tt.toArray⟩ := hR 48 (by decide)
    have e49 : a.tmps.getD 97 undef = .bool true := hR 49 (by decide)
    have e50 : a.tmps.getD 98 undef = .bool true := hR 50 (by decide)
    rw [hF.fold (by kernel_rfl)]
    simp only [List.foldl_cons, List.foldl_nil, e0, e1, e2, e3, e4, e5, e6, e7, e8, e9, e10, e11, e12, e13, e14, e15, e16, e17, e18, e19, e20, e21, e22, e23, e24, e25, e26, e27, e28, e29, e30, e31, e32, e33, e34, e35, e36, e37, e38, e39, e40, e41, e42, e43, e44, e45, e46, e47, e48, e49, e50]
    simp only [Act.put, List.setIfInBounds_toArray, List.set_cons_zero, List.set_cons_succ]
    change wpOps _ _ _ [51] _ _
    simp only [wpOps_cons]
    clear e0 e1 e2 e3 e4 e5 e6 e7 e8 e9 e10 e11 e12 e13 e14 e15 e16 e17 e18 e19 e20 e21 e22 e23 e24 e25 e26 e27 e28 e29 e30 e31 e32 e33 e34 e35 e36 e37 e38 e39 e40 e41 e42 e43 e44 e45 e46 e47 e48 e49 e50 hR hF
    have HE := Lib.hid (L8.out.step hb)
    simp only [wpOp, List.getElem?_toArray, List.getElem?_cons_succ, List.getElem?_cons_zero, Region.wanted, if_true]
    refine Or.inl ?_
    simp only [Oper.wp, execOp]
    go_simp
    try simp only [wpOps]
    go_wp2
    go_ret
    exact ⟨rfl, HE.out.1⟩
end Go.Proofs.YthgkdpfkaobgoaaDoor
end

section
/-
  The law ZintBytes of chapter 4, walked.
-/
namespace Go.Proofs.YthgkdpfkaobgoaaDoor
open Go.RowKit
set_option maxHeartbeats 16000000 in
set_option maxRecDepth 100000 in
theorem zlbytes_ny (Ax : Option Addr) (cx : Nat) (sx : Bool) (xsx : List Nat) (b : ByteArray) (lx : xsx.length ≤ 9223372036854775807) (hmax : b.data.toList.length ≤ 9223372036854775807) (r0 : rightB sx xsx = false ∨ 400 < xsx.length) (k0 : tkOk b.data.toList) (w : World) (hx : Dg w Ax cx xsx) (htab : P10 w) :
    Calls Tryd.prog 5 #[.agg #[.bool sx, .slice Ax xsx.length cx], .string b] w fun e w' => e = .returned (.bool true) ∧ Below w.heap.size w w' := by
  obtain ⟨tx, htx⟩ : ∃ t, xsx.take 12 = t := ⟨_, rfl⟩
  have blx : tx.length ≤ 12 := by rw [← htx]; exact List.length_take_le _ _
  have TTx := Lib.hid htx
  obtain ⟨vx, hvx⟩ := is_z (sg sx (val tx))
  have bzx : (digs vx.natAbs).length ≤ 12 := Nat.le_trans (zlen_raw (by rw [← htx]; exact (hx.take 12).2.1) hvx) blx
  have HVx := Lib.hid hvx
  clear hvx htx
  have LX := Lib.hid lx
  have HM := Lib.hid hmax
  have R0 := Lib.hid r0
  have K0 := Lib.hid k0
  clear lx hmax r0 k0
  obtain ⟨tt, htt⟩ : ∃ t, tz vx = t := ⟨_, rfl⟩
  have HTT := Lib.hid htt
  clear htt
  obtain ⟨ds, hds⟩ : ∃ d, rdn b.data.toList (hd2 b.data.toList / 2) = d := ⟨_, rfl⟩
  have hdl : ds.length ≤ 400 := by rw [← hds, rdn_len]; exact K0.out.2.1
  have HDS := Lib.hid hds
  obtain ⟨ng, hng⟩ : ∃ d, decide (hd2 b.data.toList % 2 = 1) = d := ⟨_, rfl⟩
  have HNG := Lib.hid hng
  obtain ⟨rt, hrt⟩ : ∃ d, b.data.toList.drop (2 + 4 * (hd2 b.data.toList / 2)) = d := ⟨_, rfl⟩
  have HRT := Lib.hid hrt
  have HDL := Lib.hid hdl
  clear hds hng hrt hdl
  have lbx := Lib.hid (show (tx).length ≤ 100000 by omega)
  have lbx12 := Lib.hid (show tx.length ≤ 12 from blx)
  have HT := Lib.hid htab
  clear htab
  have EX := Lib.hid (fun V hv => examples_any V hv)
  go_enter Tryd.func5, Tryd.ntmps5
  go_upto_region 1 with fail
  obtain ⟨w0, hW⟩ : ∃ W : World, W = (w.alloc (.cells #[.bool sx, .slice Ax xsx.length cx] 24)) := ⟨_, rfl⟩
  rw [← hW]
  have hb : Below w.heap.size w w0 := by rw [hW]; exact below1 w _
  have L0 := Lib.hid (((((live_start w).step hb).add (hx.below hb)).add (show Dg w0 Ax cx tx by rw [← TTx.out]; exact (hx.below hb).take 12)))
  have Rx_0 := Lib.hid (show w0.heap[w.heap.size]? = some (.cells #[.bool sx, .slice Ax xsx.length cx] 24 (0, 0)) by rw [hW]; have := heap_alloc_new w (.cells #[.bool sx, .slice Ax xsx.length cx] 24); simpa using this)
  clear hW hb hx
  go_wp2_with fail
  refine (EX.out w0 (p10_below HT.out L0.out.1)).mono ?_
  rintro e w1 ⟨rfl, hb⟩
  have L1 := Lib.hid (L0.out.step hb)
  have Rx_1 := Lib.hid (cells_of Rx_0.out hb)
  clear hb 
  have fx0 := cell_of_row w1 _ 0 _ _ _ Rx_1.out
  have fx1 := cell_of_row w1 _ 1 _ _ _ Rx_1.out
  have xx := heap_lt Rx_1.out
  simp only [List.getElem?_toArray, List.getElem?_cons_zero, List.getElem?_cons_succ] at fx0 fx1
  go_wp2_with fail
  refine (zbytes_n (s := sx) (L1.out.get (A := Ax) (c := cx) (xs := xsx) (by simp)) LX.out R0.out).mono ?_
  rintro e w2 ⟨rfl, hb⟩
  have L2 := Lib.hid (L1.out.step hb)
  have Rx_2 := Lib.hid (cells_of Rx_1.out hb)
  clear fx0 fx1 xx
  clear hb 
  have fx0 := cell_of_row w2 _ 0 _ _ _ Rx_2.out
  have fx1 := cell_of_row w2 _ 1 _ _ _ Rx_2.out
  have xx := heap_lt Rx_2.out
  simp only [List.getElem?_toArray, List.getElem?_cons_zero, List.getElem?_cons_succ] at fx0 fx1
  go_wp2_with fail
  refine (rzbytes_n (s := sx) (L2.out.get (A := Ax) (c := cx) (xs := xsx) (by simp)) LX.out R0.out).mono ?_
  rintro e w3 ⟨rfl, hb⟩
  have L3 := Lib.hid (L2.out.step hb)
  have Rx_3 := Lib.hid (cells_of Rx_2.out hb)
  clear fx0 fx1 xx
  clear hb 
  go_wp2_with fail
  refine (ztake_y (l := b.data.toList) rfl HM.out K0.out HDS.out HNG.out HRT.out).mono ?_
  rintro e w4 ⟨A4, c4, rfl, hd, hb⟩
  have L4 := Lib.hid ((L3.out.step hb).add hd)
  have Rx_4 := Lib.hid (cells_of Rx_3.out hb)
  clear hb hd
  go_wp2_with fail
  have Lx5 := Lib.hid (L4.out.step (below1 w4 (.cells #[.bool ng, .slice A4 ds.length c4] 24)))
  refine (rztake_y (l := b.data.toList) rfl HM.out K0.out HDS.out HNG.out HRT.out).mono ?_
  rintro e w5 ⟨A5, c5, rfl, hd, hb⟩
  have L5 := Lib.hid ((Lx5.out.step hb).add hd)
  have Rx_5 := Lib.hid (cells_of (cells_of Rx_4.out (below1 w4 (.cells #[.bool ng, .slice A4 ds.length c4] 24))) hb)
  have Ra_5 := Lib.hid (cells_of (heap_alloc_new w4 (.cells #[.bool ng, .slice A4 ds.length c4] 24)) hb)
  clear hb hd
  have fa0 := cell_of_row w5 _ 0 _ _ _ Ra_5.out
  have fa1 := cell_of_row w5 _ 1 _ _ _ Ra_5.out
  have xa := heap_lt Ra_5.out
  simp only [List.getElem?_toArray, List.getElem?_cons_zero, List.getElem?_cons_succ] at fa0 fa1
  go_wp2_with fail
  have Lx6 := Lib.hid (L5.out.step (below1 w5 (.cells #[.bool ng, .slice A5 ds.length c5] 24)))
  refine (same_any A4 A5 c4 c5 ng ds _ (Lx6.out.get (A := A4) (c := c4) (xs := ds) (by simp)) (Lx6.out.get (A := A5) (c := c5) (xs := ds) (by simp)) (Nat.le_trans HDL.out (by omega))).mono ?_
  rintro e w6 ⟨rfl, hb⟩
  have L6 := Lib.hid (Lx6.out.step hb)
  have Rx_6 := Lib.hid (cells_of (cells_of Rx_5.out (below1 w5 (.cells #[.bool ng, .slice A5 ds.length c5] 24))) hb)
  have Ra_6 := Lib.hid (cells_of (cells_of Ra_5.out (below1 w5 (.cells #[.bool ng, .slice A5 ds.length c5] 24))) hb)
  clear fa0 fa1 xa
  have Rc_6 := Lib.hid (cells_of (heap_alloc_new w5 (.cells #[.bool ng, .slice A5 ds.length c5] 24)) hb)
  clear hb 
  have fx0 := cell_of_row w6 _ 0 _ _ _ Rx_6.out
  have fx1 := cell_of_row w6 _ 1 _ _ _ Rx_6.out
  have xx := heap_lt Rx_6.out
  simp only [List.getElem?_toArray, List.getElem?_cons_zero, List.getElem?_cons_succ] at fx0 fx1
  go_wp2_with fail
  refine (lshort_v (s := sx) (L6.out.get (A := Ax) (c := cx) (xs := xsx) (by simp)) (by omega) TTx.out).mono ?_
  rintro e w7 ⟨rfl, hb⟩
  have L7 := Lib.hid (L6.out.step hb)
  have Rx_7 := Lib.hid (cells_of Rx_6.out hb)
  have Ra_7 := Lib.hid (cells_of Ra_6.out hb)
  have Rc_7 := Lib.hid (cells_of Rc_6.out hb)
  clear fx0 fx1 xx
  clear hb 
  go_wp2_with fail
  obtain ⟨w8, hW⟩ : ∃ W : World, W = (w7.alloc (.cells #[.bool sx, .slice Ax tx.length cx] 24)) := ⟨_, rfl⟩
  rw [← hW]
  have hb : Below w7.heap.size w7 w8 := by rw [hW]; exact below1 _ _
  have L8 := Lib.hid (L7.out.step hb)
  have Rx_8 := Lib.hid (cells_of Rx_7.out hb)
  have Ra_8 := Lib.hid (cells_of Ra_7.out hb)
  have Rc_8 := Lib.hid (cells_of Rc_7.out hb)
  have Ry_8 := Lib.hid (show w8.heap[w7.heap.size]? = some (.cells #[.bool sx, .slice Ax tx.length cx] 24 (0, 0)) by rw [hW]; exact heap_alloc_new _ _)
  clear hW hb
  refine wp_operands (W := w8) rfl 51 [48, 49, 50, 51, 52, 53, 54, 55, 56, 57, 58, 59, 60, 61, 62, 63, 64, 65, 66, 67, 68, 69, 70, 71, 72, 73, 74, 75, 76, 77, 78, 79, 80, 81, 82, 83, 84, 85, 86, 87, 88, 89, 90, 91, 92, 93, 94, 95, 96, 97, 98] (fun i u _ => match i with | 0 => u = .bool true | 1 => u = .bool true | 2 => u = .string ⟨#[]⟩ | 3 => u = .string ⟨#[]⟩ | 4 => u = .bool true | 5 => u = .bool true | 6 => u = .bool true | 7 => u = .bool false | 8 => u = .bool false | 9 => u = undef | 10 => u = undef | 11 => u = .bool false | 12 => u = .bool false | 13 => u = .bool false | 14 => u = .bool true | 15 => u = .bool true | 16 => u = .int .i64 1 | 17 => u = .bool true | 18 => u = .bool true | 19 => u = .bool true | 20 => u = .bool true | 21 => u = .bool true | 22 => u = .bool true | 23 => u = .bool true | 24 => u = .bool true | 25 => u = .string ⟨rt.toArray⟩ | 26 => u = .string ⟨rt.toArray⟩ | 27 => u = .bool true | 28 => u = .bool true | 29 => u = .bool true | 30 => u = .bool true | 31 => u = .bool true | 32 => u = .int .i64 0 | 33 => u = .bool true | 34 => u = .bool true | 35 => u = .bool true | 36 => u = undef | 37 => u = undef | 38 => u = undef | 39 => u = undef | 40 => u = undef | 41 => u = undef | 42 => u = .bool true | 43 => u = .bool true | 44 => u = .bool true | 45 => u = .agg #[.bool sx, .slice Ax tx.length cx] | 46 => u = .string ⟨tt.toArray⟩ | 47 => u = .agg #[.bool sx, .slice Ax tx.length cx] | 48 => u = .string ⟨tt.toArray⟩ | 49 => u = .bool true | 50 => u = .bool true | _ => True) (fun _ => false)
    (by decide) rfl (by kernel_rfl) (by kernel_rfl) (by decide) (by kernel_rfl) (fun _ _ _ _ _ h _ => h) (fun _ _ _ h => by cases h) ?_ ?_
  · intro i a x K hi hF hb hw hK
    have hi' : i = 0 ∨ i = 1 ∨ i = 2 ∨ i = 3 ∨ i = 4 ∨ i = 5 ∨ i = 6 ∨ i = 7 ∨ i = 8 ∨ i = 9 ∨ i = 10 ∨ i = 11 ∨ i = 12 ∨ i = 13 ∨ i = 14 ∨ i = 15 ∨ i = 16 ∨ i = 17 ∨ i = 18 ∨ i = 19 ∨ i = 20 ∨ i = 21 ∨ i = 22 ∨ i = 23 ∨ i = 24 ∨ i = 25 ∨ i = 26 ∨ i = 27 ∨ i = 28 ∨ i = 29 ∨ i = 30 ∨ i = 31 ∨ i = 32 ∨ i = 33 ∨ i = 34 ∨ i = 35 ∨ i = 36 ∨ i = 37 ∨ i = 38 ∨ i = 39 ∨ i = 40 ∨ i = 41 ∨ i = 42 ∨ i = 43 ∨ i = 44 ∨ i = 45 ∨ i = 46 ∨ i = 47 ∨ i = 48 ∨ i = 49 ∨ i = 50 := by omega
    rcases hi' with rfl | rfl | rfl | rfl | rfl | rfl | rfl | rfl | rfl | rfl | rfl | rfl | rfl | rfl | rfl | rfl | rfl | rfl | rfl | rfl | rfl | rfl | rfl | rfl | rfl | rfl | rfl | rfl | rfl | rfl | rfl | rfl | rfl | rfl | rfl | rfl | rfl | rfl | rfl | rfl | rfl | rfl | rfl | rfl | rfl | rfl | rfl | rfl | rfl | rfl | rfl
    · simp only [wpOp, List.getElem?_toArray, List.getElem?_cons_zero, Region.wanted, if_true]
      refine Or.inl ?_
      have e0 : a.eval (.tmp 5) = .bool true := hF.2.2 5 (by decide)
      clear hw hF
      simp only [Oper.wp, execOp]
      rw [e0]
      go_simp
      exact hK _ x (by first | rfl | simp) (Below.refl _ _) (fun h => by cases h)
    · simp only [wpOp, List.getElem?_toArray, List.getElem?_cons_succ, List.getElem?_cons_zero, Region.wanted, if_true]
      refine Or.inl ?_
      have e0 : a.tmps.getD 48 undef = .bool true := hw 0 (by kernel_rfl)
      clear hw hF
      simp only [Oper.wp, execOp]
      go_simp
      exact hK _ x (by first | rfl | simp) (Below.refl _ _) (fun h => by cases h)
    · simp only [wpOp, List.getElem?_toArray, List.getElem?_cons_succ, List.getElem?_cons_zero]
      have eg : a.tmps.getD 49 undef = .bool true := hw 1 (by kernel_rfl)
      refine ite_yes (wanted_yes rfl (yielded_of (t := 49) (by kernel_rfl) eg)) ?_
      clear eg
      refine Or.inl ?_
      have e0 : a.eval (.tmp 6) = .string ⟨#[]⟩ := hF.2.2 6 (by decide)
      clear hw hF
      simp only [Oper.wp, execOp]
      rw [e0]
      go_simp
      exact hK _ x (by first | rfl | simp) (Below.refl _ _) (fun h => by cases h)
    · simp only [wpOp, List.getElem?_toArray, List.getElem?_cons_succ, List.getElem?_cons_zero]
      have eg : a.tmps.getD 49 undef = .bool true := hw 1 (by kernel_rfl)
      refine ite_yes (wanted_yes rfl (yielded_of (t := 49) (by kernel_rfl) eg)) ?_
      clear eg
      refine Or.inl ?_
      have e0 : a.eval (.tmp 8) = .string ⟨#[]⟩ := hF.2.2 8 (by decide)
      clear hw hF
      simp only [Oper.wp, execOp]
      rw [e0]
      go_simp
      exact hK _ x (by first | rfl | simp) (Below.refl _ _) (fun h => by cases h)
    · simp only [wpOp, List.getElem?_toArray, List.getElem?_cons_succ, List.getElem?_cons_zero]
      have eg : a.tmps.getD 49 undef = .bool true := hw 1 (by kernel_rfl)
      refine ite_yes (wanted_yes rfl (yielded_of (t := 49) (by kernel_rfl) eg)) ?_
      clear eg
      refine Or.inl ?_
      have e0 : a.tmps.getD 50 undef = .string ⟨#[]⟩ := hw 2 (by kernel_rfl)
      have e1 : a.tmps.getD 51 undef = .string ⟨#[]⟩ := hw 3 (by kernel_rfl)
      clear hw hF
      simp only [Oper.wp, execOp]
      go_simp
      exact hK _ x (by first | rfl | simp) (Below.refl _ _) (fun h => by cases h)
    · simp only [wpOp, List.getElem?_toArray, List.getElem?_cons_succ, List.getElem?_cons_zero, Region.wanted, if_true]
      refine Or.inl ?_
      have e0 : a.tmps.getD 49 undef = .bool true := hw 1 (by kernel_rfl)
      have e1 : a.tmps.getD 52 undef = .bool true := hw 4 (by kernel_rfl)
      clear hw hF
      simp only [Oper.wp, execOp]
      go_simp
      exact hK _ x (by first | rfl | simp) (Below.refl _ _) (fun h => by cases h)
    · simp only [wpOp, List.getElem?_toArray, List.getElem?_cons_succ, List.getElem?_cons_zero, Region.wanted, if_true]
      refine Or.inl ?_
      have e0 : a.tmps.getD 53 undef = .bool true := hw 5 (by kernel_rfl)
      clear hw hF
      simp only [Oper.wp, execOp]
      go_simp
      exact hK _ x (by first | rfl | simp) (Below.refl _ _) (fun h => by cases h)
    · simp only [wpOp, List.getElem?_toArray, List.getElem?_cons_succ, List.getElem?_cons_zero]
      have eg : a.tmps.getD 54 undef = .bool true := hw 6 (by kernel_rfl)
      refine ite_yes (wanted_yes rfl (yielded_of (t := 54) (by kernel_rfl) eg)) ?_
      clear eg
      refine Or.inl ?_
      have e0 : a.eval (.tmp 9) = .bool false := hF.2.2 9 (by decide)
      clear hw hF
      simp only [Oper.wp, execOp]
      rw [e0]
      go_simp
      exact hK _ x (by first | rfl | simp) (Below.refl _ _) (fun h => by cases h)
    · simp only [wpOp, List.getElem?_toArray, List.getElem?_cons_succ, List.getElem?_cons_zero]
      have eg : a.tmps.getD 54 undef = .bool true := hw 6 (by kernel_rfl)
      refine ite_yes (wanted_yes rfl (yielded_of (t := 54) (by kernel_rfl) eg)) ?_
      clear eg
      refine Or.inl ?_
      have e0 : a.tmps.getD 55 undef = .bool false := hw 7 (by kernel_rfl)
      clear hw hF
      simp only [Oper.wp, execOp]
      go_simp
      exact hK _ x (by first | rfl | simp) (Below.refl _ _) (fun h => by cases h)
    · simp only [wpOp, List.getElem?_toArray, List.getElem?_cons_succ, List.getElem?_cons_zero]
      have eg : a.tmps.getD 56 undef = .bool false := hw 8 (by kernel_rfl)
      refine ite_not (wanted_not rfl (yielded_of (t := 56) (by kernel_rfl) eg)) ?_
      exact hK _ x rfl (Below.refl _ _) (fun h => by cases h)
    · simp only [wpOp, List.getElem?_toArray, List.getElem?_cons_succ, List.getElem?_cons_zero]
      have eg : a.tmps.getD 56 undef = .bool false := hw 8 (by kernel_rfl)
      refine ite_not (wanted_not rfl (yielded_of (t := 56) (by kernel_rfl) eg)) ?_
      exact hK _ x rfl (Below.refl _ _) (fun h => by cases h)
    · simp only [wpOp, List.getElem?_toArray, List.getElem?_cons_succ, List.getElem?_cons_zero]
      have eg : a.tmps.getD 54 undef = .bool true := hw 6 (by kernel_rfl)
      refine ite_yes (wanted_yes rfl (yielded_of (t := 54) (by kernel_rfl) eg)) ?_
      clear eg
      refine Or.inl ?_
      have e0 : a.tmps.getD 56 undef = .bool false := hw 8 (by kernel_rfl)
      have e1 : a.tmps.getD 58 undef = undef := hw 10 (by kernel_rfl)
      clear hw hF
      simp only [Oper.wp, execOp]
      go_simp
      exact hK _ x (by first | rfl | simp) (Below.refl _ _) (fun h => by cases h)
    · simp only [wpOp, List.getElem?_toArray, List.getElem?_cons_succ, List.getElem?_cons_zero]
      have eg : a.tmps.getD 54 undef = .bool true := hw 6 (by kernel_rfl)
      refine ite_yes (wanted_yes rfl (yielded_of (t := 54) (by kernel_rfl) eg)) ?_
      clear eg
      refine Or.inl ?_
      have e0 : a.tmps.getD 59 undef = .bool false := hw 11 (by kernel_rfl)
      clear hw hF
      simp only [Oper.wp, execOp]
      go_simp
      exact hK _ x (by first | rfl | simp) (Below.refl _ _) (fun h => by cases h)
    · simp only [wpOp, List.getElem?_toArray, List.getElem?_cons_succ, List.getElem?_cons_zero]
      have eg : a.tmps.getD 60 undef = .bool false := hw 12 (by kernel_rfl)
      refine ite_yes (wanted_yes rfl (yielded_of (t := 60) (by kernel_rfl) eg)) ?_
      clear eg
      refine Or.inl ?_
      have e0 : a.eval (.tmp 9) = .bool false := hF.2.2 9 (by decide)
      clear hw hF
      simp only [Oper.wp, execOp]
      rw [e0]
      go_simp
      exact hK _ x (by first | rfl | simp) (Below.refl _ _) (fun h => by cases h)
    · simp only [wpOp, List.getElem?_toArray, List.getElem?_cons_succ, List.getElem?_cons_zero]
      have eg : a.tmps.getD 60 undef = .bool false := hw 12 (by kernel_rfl)
      refine ite_yes (wanted_yes rfl (yielded_of (t := 60) (by kernel_rfl) eg)) ?_
      clear eg
      refine Or.inl ?_
      have e0 : a.tmps.getD 61 undef = .bool false := hw 13 (by kernel_rfl)
      clear hw hF
      simp only [Oper.wp, execOp]
      go_simp
      exact hK _ x (by first | rfl | simp) (Below.refl _ _) (fun h => by cases h)
    · simp only [wpOp, List.getElem?_toArray, List.getElem?_cons_succ, List.getElem?_cons_zero]
      have eg : a.tmps.getD 60 undef = .bool false := hw 12 (by kernel_rfl)
      refine ite_yes (wanted_yes rfl (yielded_of (t := 60) (by kernel_rfl) eg)) ?_
      clear eg
      refine Or.inl ?_
      have e0 : a.tmps.getD 62 undef = .bool true := hw 14 (by kernel_rfl)
      clear hw hF
      simp only [Oper.wp, execOp]
      go_simp
      exact hK _ x (by first | rfl | simp) (Below.refl _ _) (fun h => by cases h)
    · simp only [wpOp, List.getElem?_toArray, List.getElem?_cons_succ, List.getElem?_cons_zero]
      have eg : a.tmps.getD 63 undef = .bool true := hw 15 (by kernel_rfl)
      refine ite_yes (wanted_yes rfl (yielded_of (t := 63) (by kernel_rfl) eg)) ?_
      clear eg
      refine Or.inl ?_
      have e0 : a.eval (.tmp 7) = .int .i64 1 := hF.2.2 7 (by decide)
      clear hw hF
      simp only [Oper.wp, execOp]
      rw [e0]
      go_simp
      exact hK _ x (by first | rfl | simp) (Below.refl _ _) (fun h => by cases h)
    · simp only [wpOp, List.getElem?_toArray, List.getElem?_cons_succ, List.getElem?_cons_zero]
      have eg : a.tmps.getD 63 undef = .bool true := hw 15 (by kernel_rfl)
      refine ite_yes (wanted_yes rfl (yielded_of (t := 63) (by kernel_rfl) eg)) ?_
      clear eg
      refine Or.inl ?_
      have e0 : a.tmps.getD 64 undef = .int .i64 1 := hw 16 (by kernel_rfl)
      clear hw hF
      simp only [Oper.wp, execOp]
      go_simp
      exact hK _ x (by first | rfl | simp) (Below.refl _ _) (fun h => by cases h)
    · simp only [wpOp, List.getElem?_toArray, List.getElem?_cons_succ, List.getElem?_cons_zero]
      have eg : a.tmps.getD 60 undef = .bool false := hw 12 (by kernel_rfl)
      refine ite_yes (wanted_yes rfl (yielded_of (t := 60) (by kernel_rfl) eg)) ?_
      clear eg
      refine Or.inl ?_
      have e0 : a.tmps.getD 63 undef = .bool true := hw 15 (by kernel_rfl)
      have e1 : a.tmps.getD 65 undef = .bool true := hw 17 (by kernel_rfl)
      clear hw hF
      simp only [Oper.wp, execOp]
      go_simp
      exact hK _ x (by first | rfl | simp) (Below.refl _ _) (fun h => by cases h)
    · simp only [wpOp, List.getElem?_toArray, List.getElem?_cons_succ, List.getElem?_cons_zero]
      have eg : a.tmps.getD 54 undef = .bool true := hw 6 (by kernel_rfl)
      refine ite_yes (wanted_yes rfl (yielded_of (t := 54) (by kernel_rfl) eg)) ?_
      clear eg
      refine Or.inl ?_
      have e0 : a.tmps.getD 60 undef = .bool false := hw 12 (by kernel_rfl)
      have e1 : a.tmps.getD 66 undef = .bool true := hw 18 (by kernel_rfl)
      clear hw hF
      simp only [Oper.wp, execOp]
      go_simp
      exact hK _ x (by first | rfl | simp) (Below.refl _ _) (fun h => by cases h)
    · simp only [wpOp, List.getElem?_toArray, List.getElem?_cons_succ, List.getElem?_cons_zero, Region.wanted, if_true]
      refine Or.inl ?_
      have e0 : a.tmps.getD 54 undef = .bool true := hw 6 (by kernel_rfl)
      have e1 : a.tmps.getD 67 undef = .bool true := hw 19 (by kernel_rfl)
      clear hw hF
      simp only [Oper.wp, execOp]
      go_simp
      exact hK _ x (by first | rfl | simp) (Below.refl _ _) (fun h => by cases h)
    · simp only [wpOp, List.getElem?_toArray, List.getElem?_cons_succ, List.getElem?_cons_zero, Region.wanted, if_true]
      refine Or.inl ?_
      have e0 : a.tmps.getD 68 undef = .bool true := hw 20 (by kernel_rfl)
      clear hw hF
      simp only [Oper.wp, execOp]
      go_simp
      exact hK _ x (by first | rfl | simp) (Below.refl _ _) (fun h => by cases h)
    · simp only [wpOp, List.getElem?_toArray, List.getElem?_cons_succ, List.getElem?_cons_zero]
      have eg : a.tmps.getD 69 undef = .bool true := hw 21 (by kernel_rfl)
      refine ite_yes (wanted_yes rfl (yielded_of (t := 69) (by kernel_rfl) eg)) ?_
      clear eg
      refine Or.inl ?_
      have e0 : a.eval (.tmp 16) = .bool true := hF.2.2 16 (by decide)
      clear hw hF
      simp only [Oper.wp, execOp]
      rw [e0]
      go_simp
      exact hK _ x (by first | rfl | simp) (Below.refl _ _) (fun h => by cases h)
    · simp only [wpOp, List.getElem?_toArray, List.getElem?_cons_succ, List.getElem?_cons_zero, Region.wanted, if_true]
      refine Or.inl ?_
      have e0 : a.tmps.getD 69 undef = .bool true := hw 21 (by kernel_rfl)
      have e1 : a.tmps.getD 70 undef = .bool true := hw 22 (by kernel_rfl)
      clear hw hF
      simp only [Oper.wp, execOp]
      go_simp
      exact hK _ x (by first | rfl | simp) (Below.refl _ _) (fun h => by cases h)
    · simp only [wpOp, List.getElem?_toArray, List.getElem?_cons_succ, List.getElem?_cons_zero, Region.wanted, if_true]
      refine Or.inl ?_
      have e0 : a.tmps.getD 71 undef = .bool true := hw 23 (by kernel_rfl)
      clear hw hF
      simp only [Oper.wp, execOp]
      go_simp
      exact hK _ x (by first | rfl | simp) (Below.refl _ _) (fun h => by cases h)
    · simp only [wpOp, List.getElem?_toArray, List.getElem?_cons_succ, List.getElem?_cons_zero]
      have eg : a.tmps.getD 72 undef = .bool true := hw 24 (by kernel_rfl)
      refine ite_yes (wanted_yes rfl (yielded_of (t := 72) (by kernel_rfl) eg)) ?_
      clear eg
      refine Or.inl ?_
      have e0 : a.eval (.tmp 11) = .string ⟨rt.toArray⟩ := hF.2.2 11 (by decide)
      clear hw hF
      simp only [Oper.wp, execOp]
      rw [e0]
      go_simp
      exact hK _ x (by first | rfl | simp) (Below.refl _ _) (fun h => by cases h)
    · simp only [wpOp, List.getElem?_toArray, List.getElem?_cons_succ, List.getElem?_cons_zero]
      have eg : a.tmps.getD 72 undef = .bool true := hw 24 (by kernel_rfl)
      refine ite_yes (wanted_yes rfl (yielded_of (t := 72) (by kernel_rfl) eg)) ?_
      clear eg
      refine Or.inl ?_
      have e0 : a.eval (.tmp 14) = .string ⟨rt.toArray⟩ := hF.2.2 14 (by decide)
      clear hw hF
      simp only [Oper.wp, execOp]
      rw [e0]
      go_simp
      exact hK _ x (by first | rfl | simp) (Below.refl _ _) (fun h => by cases h)
    · simp only [wpOp, List.getElem?_toArray, List.getElem?_cons_succ, List.getElem?_cons_zero]
      have eg : a.tmps.getD 72 undef = .bool true := hw 24 (by kernel_rfl)
      refine ite_yes (wanted_yes rfl (yielded_of (t := 72) (by kernel_rfl) eg)) ?_
      clear eg
      refine Or.inl ?_
      have e0 : a.tmps.getD 73 undef = .string ⟨rt.toArray⟩ := hw 25 (by kernel_rfl)
      have e1 : a.tmps.getD 74 undef = .string ⟨rt.toArray⟩ := hw 26 (by kernel_rfl)
      clear hw hF
      simp only [Oper.wp, execOp]
      go_simp
      exact hK _ x (by first | rfl | simp) (Below.refl _ _) (fun h => by cases h)
    · simp only [wpOp, List.getElem?_toArray, List.getElem?_cons_succ, List.getElem?_cons_zero, Region.wanted, if_true]
      refine Or.inl ?_
      have e0 : a.tmps.getD 72 undef = .bool true := hw 24 (by kernel_rfl)
      have e1 : a.tmps.getD 75 undef = .bool true := hw 27 (by kernel_rfl)
      clear hw hF
      simp only [Oper.wp, execOp]
      go_simp
      exact hK _ x (by first | rfl | simp) (Below.refl _ _) (fun h => by cases h)
    · simp only [wpOp, List.getElem?_toArray, List.getElem?_cons_succ, List.getElem?_cons_zero, Region.wanted, if_true]
      refine Or.inl ?_
      have e0 : a.tmps.getD 76 undef = .bool true := hw 28 (by kernel_rfl)
      clear hw hF
      simp only [Oper.wp, execOp]
      go_simp
      exact hK _ x (by first | rfl | simp) (Below.refl _ _) (fun h => by cases h)
    · simp only [wpOp, List.getElem?_toArray, List.getElem?_cons_succ, List.getElem?_cons_zero]
      have eg : a.tmps.getD 77 undef = .bool true := hw 29 (by kernel_rfl)
      refine ite_yes (wanted_yes rfl (yielded_of (t := 77) (by kernel_rfl) eg)) ?_
      clear eg
      refine Or.inl ?_
      have e0 : a.eval (.tmp 15) = .bool true := hF.2.2 15 (by decide)
      clear hw hF
      simp only [Oper.wp, execOp]
      rw [e0]
      go_simp
      exact hK _ x (by first | rfl | simp) (Below.refl _ _) (fun h => by cases h)
    · simp only [wpOp, List.getElem?_toArray, List.getElem?_cons_succ, List.getElem?_cons_zero]
      have eg : a.tmps.getD 77 undef = .bool true := hw 29 (by kernel_rfl)
      refine ite_yes (wanted_yes rfl (yielded_of (t := 77) (by kernel_rfl) eg)) ?_
      clear eg
      refine Or.inl ?_
      have e0 : a.tmps.getD 78 undef = .bool true := hw 30 (by kernel_rfl)
      clear hw hF
      simp only [Oper.wp, execOp]
      go_simp
      exact hK _ x (by first | rfl | simp) (Below.refl _ _) (fun h => by cases h)
    · simp only [wpOp, List.getElem?_toArray, List.getElem?_cons_succ, List.getElem?_cons_zero]
      have eg : a.tmps.getD 79 undef = .bool true := hw 31 (by kernel_rfl)
      refine ite_yes (wanted_yes rfl (yielded_of (t := 79) (by kernel_rfl) eg)) ?_
      clear eg
      refine Or.inl ?_
      have e0 : a.eval (.tmp 12) = .int .i64 0 := hF.2.2 12 (by decide)
      clear hw hF
      simp only [Oper.wp, execOp]
      rw [e0]
      go_simp
      exact hK _ x (by first | rfl | simp) (Below.refl _ _) (fun h => by cases h)
    · simp only [wpOp, List.getElem?_toArray, List.getElem?_cons_succ, List.getElem?_cons_zero]
      have eg : a.tmps.getD 79 undef = .bool true := hw 31 (by kernel_rfl)
      refine ite_yes (wanted_yes rfl (yielded_of (t := 79) (by kernel_rfl) eg)) ?_
      clear eg
      refine Or.inl ?_
      have e0 : a.tmps.getD 80 undef = .int .i64 0 := hw 32 (by kernel_rfl)
      clear hw hF
      simp only [Oper.wp, execOp]
      go_simp
      exact hK _ x (by first | rfl | simp) (Below.refl _ _) (fun h => by cases h)
    · simp only [wpOp, List.getElem?_toArray, List.getElem?_cons_succ, List.getElem?_cons_zero]
      have eg : a.tmps.getD 77 undef = .bool true := hw 29 (by kernel_rfl)
      refine ite_yes (wanted_yes rfl (yielded_of (t := 77) (by kernel_rfl) eg)) ?_
      clear eg
      refine Or.inl ?_
      have e0 : a.tmps.getD 79 undef = .bool true := hw 31 (by kernel_rfl)
      have e1 : a.tmps.getD 81 undef = .bool true := hw 33 (by kernel_rfl)
      clear hw hF
      simp only [Oper.wp, execOp]
      go_simp
      exact hK _ x (by first | rfl | simp) (Below.refl _ _) (fun h => by cases h)
    · simp only [wpOp, List.getElem?_toArray, List.getElem?_cons_succ, List.getElem?_cons_zero]
      have eg : a.tmps.getD 77 undef = .bool true := hw 29 (by kernel_rfl)
      refine ite_yes (wanted_yes rfl (yielded_of (t := 77) (by kernel_rfl) eg)) ?_
      clear eg
      refine Or.inl ?_
      have e0 : a.tmps.getD 82 undef = .bool true := hw 34 (by kernel_rfl)
      clear hw hF
      simp only [Oper.wp, execOp]
      go_simp
      exact hK _ x (by first | rfl | simp) (Below.refl _ _) (fun h => by cases h)
    · simp only [wpOp, List.getElem?_toArray, List.getElem?_cons_succ, List.getElem?_cons_zero]
      have eg : a.tmps.getD 83 undef = .bool true := hw 35 (by kernel_rfl)
      refine ite_not (wanted_not rfl (yielded_of (t := 83) (by kernel_rfl) eg)) ?_
      exact hK _ x rfl (Below.refl _ _) (fun h => by cases h)
    · simp only [wpOp, List.getElem?_toArray, List.getElem?_cons_succ, List.getElem?_cons_zero]
      have eg : a.tmps.getD 83 undef = .bool true := hw 35 (by kernel_rfl)
      refine ite_not (wanted_not rfl (yielded_of (t := 83) (by kernel_rfl) eg)) ?_
      exact hK _ x rfl (Below.refl _ _) (fun h => by cases h)
    · simp only [wpOp, List.getElem?_toArray, List.getElem?_cons_succ, List.getElem?_cons_zero]
      have eg : a.tmps.getD 83 undef = .bool true := hw 35 (by kernel_rfl)
      refine ite_not (wanted_not rfl (yielded_of (t := 83) (by kernel_rfl) eg)) ?_
      exact hK _ x rfl (Below.refl _ _) (fun h => by cases h)
    · simp only [wpOp, List.getElem?_toArray, List.getElem?_cons_succ, List.getElem?_cons_zero]
      have eg : a.tmps.getD 86 undef = undef := hw 38 (by kernel_rfl)
      refine ite_not (wanted_none rfl (yielded_none (t := 86) (by kernel_rfl) eg)) ?_
      exact hK _ x rfl (Below.refl _ _) (fun h => by cases h)
    · simp only [wpOp, List.getElem?_toArray, List.getElem?_cons_succ, List.getElem?_cons_zero]
      have eg : a.tmps.getD 86 undef = undef := hw 38 (by kernel_rfl)
      refine ite_not (wanted_none rfl (yielded_none (t := 86) (by kernel_rfl) eg)) ?_
      exact hK _ x rfl (Below.refl _ _) (fun h => by cases h)
    · simp only [wpOp, List.getElem?_toArray, List.getElem?_cons_succ, List.getElem?_cons_zero]
      have eg : a.tmps.getD 83 undef = .bool true := hw 35 (by kernel_rfl)
      refine ite_not (wanted_not rfl (yielded_of (t := 83) (by kernel_rfl) eg)) ?_
      exact hK _ x rfl (Below.refl _ _) (fun h => by cases h)
    · simp only [wpOp, List.getElem?_toArray, List.getElem?_cons_succ, List.getElem?_cons_zero]
      have eg : a.tmps.getD 77 undef = .bool true := hw 29 (by kernel_rfl)
      refine ite_yes (wanted_yes rfl (yielded_of (t := 77) (by kernel_rfl) eg)) ?_
      clear eg
      refine Or.inl ?_
      have e0 : a.tmps.getD 83 undef = .bool true := hw 35 (by kernel_rfl)
      have e1 : a.tmps.getD 89 undef = undef := hw 41 (by kernel_rfl)
      clear hw hF
      simp only [Oper.wp, execOp]
      go_simp
      exact hK _ x (by first | rfl | simp) (Below.refl _ _) (fun h => by cases h)
    · simp only [wpOp, List.getElem?_toArray, List.getElem?_cons_succ, List.getElem?_cons_zero, Region.wanted, if_true]
      refine Or.inl ?_
      have e0 : a.tmps.getD 77 undef = .bool true := hw 29 (by kernel_rfl)
      have e1 : a.tmps.getD 90 undef = .bool true := hw 42 (by kernel_rfl)
      clear hw hF
      simp only [Oper.wp, execOp]
      go_simp
      exact hK _ x (by first | rfl | simp) (Below.refl _ _) (fun h => by cases h)
    · simp only [wpOp, List.getElem?_toArray, List.getElem?_cons_succ, List.getElem?_cons_zero, Region.wanted, if_true]
      refine Or.inl ?_
      have e0 : a.tmps.getD 91 undef = .bool true := hw 43 (by kernel_rfl)
      clear hw hF
      simp only [Oper.wp, execOp]
      go_simp
      exact hK _ x (by first | rfl | simp) (Below.refl _ _) (fun h => by cases h)
    · simp only [wpOp, List.getElem?_toArray, List.getElem?_cons_succ, List.getElem?_cons_zero]
      have eg : a.tmps.getD 92 undef = .bool true := hw 44 (by kernel_rfl)
      refine ite_yes (wanted_yes rfl (yielded_of (t := 92) (by kernel_rfl) eg)) ?_
      clear eg
      refine Or.inl ?_
      have e0 : a.eval (.tmp 17) = .pointer (some ⟨w7.heap.size, 0, none⟩) := hF.2.2 17 (by decide)
      have f0 := row_cell Ry_8.out hb 0
      have f1 := row_cell Ry_8.out hb 1
      simp only [List.getElem?_toArray, List.getElem?_cons_succ, List.getElem?_cons_zero] at f0 f1
      clear hw hF
      simp only [Oper.wp, execOp]
      rw [e0]
      go_simp
      exact hK _ x (by first | rfl | simp) (Below.refl _ _) (fun h => by cases h)
    · simp only [wpOp, List.getElem?_toArray, List.getElem?_cons_succ, List.getElem?_cons_zero]
      have eg : a.tmps.getD 92 undef = .bool true := hw 44 (by kernel_rfl)
      refine ite_yes (wanted_yes rfl (yielded_of (t := 92) (by kernel_rfl) eg)) ?_
      clear eg
      refine Or.inl ?_
      have e0 : a.tmps.getD 93 undef = .agg #[.bool sx, .slice Ax tx.length cx] := hw 45 (by kernel_rfl)
      clear hw hF
      simp only [Oper.wp, execOp]
      go_simp
      refine (ztext_z ((L8.out.step hb).get (A := Ax) (c := cx) (xs := tx) (by simp)) HVx.out (Nat.le_trans lbx12.out (by omega)) (p10_below HT.out (L8.out.step hb).1) HTT.out).mono ?_
      rintro e y ⟨rfl, hbb⟩
      exact hK _ y rfl hbb (fun h => by cases h)
    · simp only [wpOp, List.getElem?_toArray, List.getElem?_cons_succ, List.getElem?_cons_zero]
      have eg : a.tmps.getD 92 undef = .bool true := hw 44 (by kernel_rfl)
      refine ite_yes (wanted_yes rfl (yielded_of (t := 92) (by kernel_rfl) eg)) ?_
      clear eg
      refine Or.inl ?_
      have e0 : a.eval (.tmp 17) = .pointer (some ⟨w7.heap.size, 0, none⟩) := hF.2.2 17 (by decide)
      have f0 := row_cell Ry_8.out hb 0
      have f1 := row_cell Ry_8.out hb 1
      simp only [List.getElem?_toArray, List.getElem?_cons_succ, List.getElem?_cons_zero] at f0 f1
      clear hw hF
      simp only [Oper.wp, execOp]
      rw [e0]
      go_simp
      exact hK _ x (by first | rfl | simp) (Below.refl _ _) (fun h => by cases h)
    · simp only [wpOp, List.getElem?_toArray, List.getElem?_cons_succ, List.getElem?_cons_zero]
      have eg : a.tmps.getD 92 undef = .bool true := hw 44 (by kernel_rfl)
      refine ite_yes (wanted_yes rfl (yielded_of (t := 92) (by kernel_rfl) eg)) ?_
      clear eg
      refine Or.inl ?_
      have e0 : a.tmps.getD 95 undef = .agg #[.bool sx, .slice Ax tx.length cx] := hw 47 (by kernel_rfl)
      clear hw hF
      simp only [Oper.wp, execOp]
      go_simp
      refine (rtext_z ((L8.out.step hb).get (A := Ax) (c := cx) (xs := tx) (by simp)) HVx.out (Nat.le_trans lbx12.out (by omega)) HTT.out).mono ?_
      rintro e y ⟨rfl, hbb⟩
      exact hK _ y rfl hbb (fun h => by cases h)
    · simp only [wpOp, List.getElem?_toArray, List.getElem?_cons_succ, List.getElem?_cons_zero]
      have eg : a.tmps.getD 92 undef = .bool true := hw 44 (by kernel_rfl)
      refine ite_yes (wanted_yes rfl (yielded_of (t := 92) (by kernel_rfl) eg)) ?_
      clear eg
      refine Or.inl ?_
      have e0 : a.tmps.getD 94 undef = .string ⟨tt.toArray⟩ := hw 46 (by kernel_rfl)
      have e1 : a.tmps.getD 96 undef = .string ⟨tt.toArray⟩ := hw 48 (by kernel_rfl)
      clear hw hF
      simp only [Oper.wp, execOp]
      go_simp
      exact hK _ x (by first | rfl | simp) (Below.refl _ _) (fun h => by cases h)
    · simp only [wpOp, List.getElem?_toArray, List.getElem?_cons_succ, List.getElem?_cons_zero, Region.wanted, if_true]
      refine Or.inl ?_
      have e0 : a.tmps.getD 92 undef = .bool true := hw 44 (by kernel_rfl)
      have e1 : a.tmps.getD 97 undef = .bool true := hw 49 (by kernel_rfl)
      clear hw hF
      simp only [Oper.wp, execOp]
      go_simp
      exact hK _ x (by first | rfl | simp) (Below.refl _ _) (fun h => by cases h)
  · intro a x hF hb hR _
    have e0 : a.tmps.getD 48 undef = .bool true := hR 0 (by decide)
    have e1 : a.tmps.getD 49 undef = .bool true := hR 1 (by decide)
    have e2 : a.tmps.getD 50 undef = .string ⟨#[]⟩ := hR 2 (by decide)
    have e3 : a.tmps.getD 51 undef = .string ⟨#[]⟩ := hR 3 (by decide)
    have e4 : a.tmps.getD 52 undef = .bool true := hR 4 (by decide)
    have e5 : a.tmps.getD 53 undef = .bool true := hR 5 (by decide)
    have e6 : a.tmps.getD 54 undef = .bool true := hR 6 (by decide)
    have e7 : a.tmps.getD 55 undef = .bool false := hR 7 (by decide)
    have e8 : a.tmps.getD 56 undef = .bool false := hR 8 (by decide)
    have e9 : a.tmps.getD 57 undef = undef := hR 9 (by decide)
    have e10 : a.tmps.getD 58 undef = undef := hR 10 (by decide)
    have e11 : a.tmps.getD 59 undef = .bool false := hR 11 (by decide)
    have e12 : a.tmps.getD 60 undef = .bool false := hR 12 (by decide)
    have e13 : a.tmps.getD 61 undef = .bool false := hR 13 (by decide)
    have e14 : a.tmps.getD 62 undef = .bool true := hR 14 (by decide)
    have e15 : a.tmps.getD 63 undef = .bool true := hR 15 (by decide)
    have e16 : a.tmps.getD 64 undef = .int .i64 1 := hR 16 (by decide)
    have e17 : a.tmps.getD 65 undef = .bool true := hR 17 (by decide)
    have e18 : a.tmps.getD 66 undef = .bool true := hR 18 (by decide)
    have e19 : a.tmps.getD 67 undef = .bool true := hR 19 (by decide)
    have e20 : a.tmps.getD 68 undef = .bool true := hR 20 (by decide)
    have e21 : a.tmps.getD 69 undef = .bool true := hR 21 (by decide)
    have e22 : a.tmps.getD 70 undef = .bool true := hR 22 (by decide)
    have e23 : a.tmps.getD 71 undef = .bool true := hR 23 (by decide)
    have e24 : a.tmps.getD 72 undef = .bool true := hR 24 (by decide)
    have e25 : a.tmps.getD 73 undef = .string ⟨rt.toArray⟩ := hR 25 (by decide)
    have e26 : a.tmps.getD 74 undef = .string ⟨rt.toArray⟩ := hR 26 (by decide)
    have e27 : a.tmps.getD 75 undef = .bool true := hR 27 (by decide)
    have e28 : a.tmps.getD 76 undef = .bool true := hR 28 (by decide)
    have e29 : a.tmps.getD 77 undef = .bool true := hR 29 (by decide)
    have e30 : a.tmps.getD 78 undef = .bool true := hR 30 (by decide)
    have e31 : a.tmps.getD 79 undef = .bool true := hR 31 (by decide)
    have e32 : a.tmps.getD 80 undef = .int .i64 0 := hR 32 (by decide)
    have e33 : a.tmps.getD 81 undef = .bool true := hR 33 (by decide)
    have e34 : a.tmps.getD 82 undef = .bool true := hR 34 (by decide)
    have e35 : a.tmps.getD 83 undef = .bool true := hR 35 (by decide)
    have e36 : a.tmps.getD 84 undef = undef := hR 36 (by decide)
    have e37 : a.tmps.getD 85 undef = undef := hR 37 (by decide)
    have e38 : a.tmps.getD 86 undef = undef := hR 38 (by decide)
    have e39 : a.tmps.getD 87 undef = undef := hR 39 (by decide)
    have e40 : a.tmps.getD 88 undef = undef := hR 40 (by decide)
    have e41 : a.tmps.getD 89 undef = undef := hR 41 (by decide)
    have e42 : a.tmps.getD 90 undef = .bool true := hR 42 (by decide)
    have e43 : a.tmps.getD 91 undef = .bool true := hR 43 (by decide)
    have e44 : a.tmps.getD 92 undef = .bool true := hR 44 (by decide)
    have e45 : a.tmps.getD 93 undef = .agg #[.bool sx, .slice Ax tx.length cx] := hR 45 (by decide)
    have e46 : a.tmps.getD 94 undef = .string ⟨tt.toArray⟩ := hR 46 (by decide)
    have e47 : a.tmps.getD 95 undef = .agg #[.bool sx, .slice Ax tx.length cx] := hR 47 (by decide)
    have e48 : a.tmps.getD 96 undef = .string ⟨tt.toArray⟩ := hR 48 (by decide)
    have e49 : a.tmps.getD 97 undef = .bool true := hR 49 (by decide)
    have e50 : a.tmps.getD 98 undef = .bool true := hR 50 (by decide)
    rw [hF.fold (by kernel_rfl)]
    simp only [List.foldl_cons, List.foldl_nil, e0, e1, e2, e3, e4, e5, e6, e7, e8, e9, e10, e11, e12, e13, e14, e15, e16, e17, e18, e19, e20, e21, e22, e23, e24, e25, e26, e27, e28, e29, e30, e31, e32, e33, e34, e35, e36, e37, e38, e39, e40, e41, e42, e43, e44, e45, e46, e47, e48, e49, e50]
    simp only [Act.put, List.setIfInBounds_toArray, List.set_cons_zero, List.set_cons_succ]
    change wpOps _ _ _ [51] _ _
    simp only [wpOps_cons]
    clear e0 e1 e2 e3 e4 e5 e6 e7 e8 e9 e10 e11 e12 e13 e14 e15 e16 e17 e18 e19 e20 e21 e22 e23 e24 e25 e26 e27 e28 e29 e30 e31 e32 e33 e34 e35 e36 e37 e38 e39 e40 e41 e42 e43 e44 e45 e46 e47 e48 e49 e50 hR hF
    have HE := Lib.hid (L8.out.step hb)
    simp only [wpOp, List.getElem?_toArray, List.getElem?_cons_succ, List.getElem?_cons_zero, Region.wanted, if_true]
    refine Or.inl ?_
    simp only [Oper.wp, execOp]
    go_simp
    try simp only [wpOps]
    go_wp2
    go_ret
    exact ⟨rfl, HE.out.1⟩
end Go.Proofs.YthgkdpfkaobgoaaDoor
end

section
/-
  The law ZintBytes of chapter 4, walked.
-/
namespace Go.Proofs.YthgkdpfkaobgoaaDoor
open Go.RowKit
set_option maxHeartbeats 16000000 in
set_option maxRecDepth 100000 in
theorem zlbytes_nn (Ax : Option Addr) (cx : Nat) (sx : Bool) (xsx : List Nat) (b : ByteArray) (lx : xsx.length ≤ 9223372036854775807) (hmax : b.data.toList.length ≤ 9223372036854775807) (r0 : rightB sx xsx = false ∨ 400 < xsx.length) (k0 : ¬ tkOk b.data.toList) (w : World) (hx : Dg w Ax cx xsx) (htab : P10 w) :
    Calls Tryd.prog 5 #[.agg #[.bool sx, .slice Ax xsx.length cx], .string b] w fun e w' => e = .returned (.bool true) ∧ Below w.heap.size w w' := by
  obtain ⟨tx, htx⟩ : ∃ t, xsx.take 12 = t := ⟨_, rfl⟩
  have blx : tx.length ≤ 12 := by rw [← htx]; exact List.length_take_le _ _
  have TTx := Lib.hid htx
  obtain ⟨vx, hvx⟩ := is_z (sg sx (val tx))
  have bzx : (digs vx.natAbs).length ≤ 12 := Nat.le_trans (zlen_raw (by rw [← htx]; exact (hx.take 12).2.1) hvx) blx
  have HVx := Lib.hid hvx
  clear hvx htx
  have LX := Lib.hid lx
  have HM := Lib.hid hmax
  have R0 := Lib.hid r0
  have K0 := Lib.hid k0
  clear lx hmax r0 k0
  obtain ⟨tt, htt⟩ : ∃ t, tz vx = t := ⟨_, rfl⟩
  have HTT := Lib.hid htt
  clear htt
  have lbx := Lib.hid (show (tx).length ≤ 100000 by omega)
  have lbx12 := Lib.hid (show tx.length ≤ 12 from blx)
  have HT := Lib.hid htab
  clear htab
  have EX := Lib.hid (fun V hv => examples_any V hv)
  go_enter Tryd.func5, Tryd.ntmps5
  go_upto_region 1 with fail
  obtain ⟨w0, hW⟩ : ∃ W : World, W = (w.alloc (.cells #[.bool sx, .slice Ax xsx.length cx] 24)) := ⟨_, rfl⟩
  rw [← hW]
  have hb : Below w.heap.size w w0 := by rw [hW]; exact below1 w _
  have L0 := Lib.hid (((((live_start w).step hb).add (hx.below hb)).add (show Dg w0 Ax cx tx by rw [← TTx.out]; exact (hx.below hb).take 12)))
  have Rx_0 := Lib.hid (show w0.heap[w.heap.size]? = some (.cells #[.bool sx, .slice Ax xsx.length cx] 24 (0, 0)) by rw [hW]; have := heap_alloc_new w (.cells #[.bool sx, .slice Ax xsx.length cx] 24); simpa using this)
  clear hW hb hx
  go_wp2_with fail
  refine (EX.out w0 (p10_below HT.out L0.out.1)).mono ?_
  rintro e w1 ⟨rfl, hb⟩
  have L1 := Lib.hid (L0.out.step hb)
  have Rx_1 := Lib.hid (cells_of Rx_0.out hb)
  clear hb 
  have fx0 := cell_of_row w1 _ 0 _ _ _ Rx_1.out
  have fx1 := cell_of_row w1 _ 1 _ _ _ Rx_1.out
  have xx := heap_lt Rx_1.out
  simp only [List.getElem?_toArray, List.getElem?_cons_zero, List.getElem?_cons_succ] at fx0 fx1
  go_wp2_with fail
  refine (zbytes_n (s := sx) (L1.out.get (A := Ax) (c := cx) (xs := xsx) (by simp)) LX.out R0.out).mono ?_
  rintro e w2 ⟨rfl, hb⟩
  have L2 := Lib.hid (L1.out.step hb)
  have Rx_2 := Lib.hid (cells_of Rx_1.out hb)
  clear fx0 fx1 xx
  clear hb 
  have fx0 := cell_of_row w2 _ 0 _ _ _ Rx_2.out
  have fx1 := cell_of_row w2 _ 1 _ _ _ Rx_2.out
  have xx := heap_lt Rx_2.out
  simp only [List.getElem?_toArray, List.getElem?_cons_zero, List.getElem?_cons_succ] at fx0 fx1
  go_wp2_with fail
  refine (rzbytes_n (s := sx) (L2.out.get (A := Ax) (c := cx) (xs := xsx) (by simp)) LX.out R0.out).mono ?_
  rintro e w3 ⟨rfl, hb⟩
  have L3 := Lib.hid (L2.out.step hb)
  have Rx_3 := Lib.hid (cells_of Rx_2.out hb)
  clear fx0 fx1 xx
  clear hb 
  go_wp2_with fail
  refine (ztake_n (l := b.data.toList) rfl HM.out K0.out).mono ?_
  rintro e w4 ⟨rfl, hb⟩
  have L4 := Lib.hid (L3.out.step hb)
  have Rx_4 := Lib.hid (cells_of Rx_3.out hb)
  clear hb 
  go_wp2_with fail
  have Lx5 := Lib.hid (L4.out.step (below1 w4 (.cells #[.bool false, .slice none 0 0] 24)))
  refine (rztake_n (l := b.data.toList) rfl HM.out K0.out).mono ?_
  rintro e w5 ⟨rfl, hb⟩
  have L5 := Lib.hid (Lx5.out.step hb)
  have Rx_5 := Lib.hid (cells_of (cells_of Rx_4.out (below1 w4 (.cells #[.bool false, .slice none 0 0] 24))) hb)
  have Ra_5 := Lib.hid (cells_of (heap_alloc_new w4 (.cells #[.bool false, .slice none 0 0] 24)) hb)
  clear hb 
  have fa0 := cell_of_row w5 _ 0 _ _ _ Ra_5.out
  have fa1 := cell_of_row w5 _ 1 _ _ _ Ra_5.out
  have xa := heap_lt Ra_5.out
  simp only [List.getElem?_toArray, List.getElem?_cons_zero, List.getElem?_cons_succ] at fa0 fa1
  go_wp2_with fail
  have Lx6 := Lib.hid (L5.out.step (below1 w5 (.cells #[.bool false, .slice none 0 0] 24)))
  refine (same_any none none 0 0 false [] _ (Dg.nil_ _ _) (Dg.nil_ _ _) (by simp)).mono ?_
  rintro e w6 ⟨rfl, hb⟩
  have L6 := Lib.hid (Lx6.out.step hb)
  have Rx_6 := Lib.hid (cells_of (cells_of Rx_5.out (below1 w5 (.cells #[.bool false, .slice none 0 0] 24))) hb)
  have Ra_6 := Lib.hid (cells_of (cells_of Ra_5.out (below1 w5 (.cells #[.bool false, .slice none 0 0] 24))) hb)
  clear fa0 fa1 xa
  have Rc_6 := Lib.hid (cells_of (heap_alloc_new w5 (.cells #[.bool false, .slice none 0 0] 24)) hb)
  clear hb 
  have fx0 := cell_of_row w6 _ 0 _ _ _ Rx_6.out
  have fx1 := cell_of_row w6 _ 1 _ _ _ Rx_6.out
  have xx := heap_lt Rx_6.out
  simp only [List.getElem?_toArray, List.getElem?_cons_zero, List.getElem?_cons_succ] at fx0 fx1
  go_wp2_with fail
  refine (lshort_v (s := sx) (L6.out.get (A := Ax) (c := cx) (xs := xsx) (by simp)) (by omega) TTx.out).mono ?_
  rintro e w7 ⟨rfl, hb⟩
  have L7 := Lib.hid (L6.out.step hb)
  have Rx_7 := Lib.hid (cells_of Rx_6.out hb)
  have Ra_7 := Lib.hid (cells_of Ra_6.out hb)
  have Rc_7 := Lib.hid (cells_of Rc_6.out hb)
  clear fx0 fx1 xx
  clear hb 
  go_wp2_with fail
  obtain ⟨w8, hW⟩ : ∃ W : World, W = (w7.alloc (.cells #[.bool sx, .slice Ax tx.length cx] 24)) := ⟨_, rfl⟩
  rw [← hW]
  have hb : Below w7.heap.size w7 w8 := by rw [hW]; exact below1 _ _
  have L8 := Lib.hid (L7.out.step hb)
  have Rx_8 := Lib.hid (cells_of Rx_7.out hb)
  have Ra_8 := Lib.hid (cells_of Ra_7.out hb)
  have Rc_8 := Lib.hid (cells_of Rc_7.out hb)
  have Ry_8 := Lib.hid (show w8.heap[w7.heap.size]? = some (.cells #[.bool sx, .slice Ax tx.length cx] 24 (0, 0)) by rw [hW]; exact heap_alloc_new _ _)
  clear hW hb
  refine wp_operands (W := w8) rfl 51 [48, 49, 50, 51, 52, 53, 54, 55, 56, 57, 58, 59, 60, 61, 62, 63, 64, 65, 66, 67, 68, 69, 70, 71, 72, 73, 74, 75, 76, 77, 78, 79, 80, 81, 82, 83, 84, 85, 86, 87, 88, 89, 90, 91, 92, 93, 94, 95, 96, 97, 98] (fun i u _ => match i with | 0 => u = .bool true | 1 => u = .bool true | 2 => u = .string ⟨#[]⟩ | 3 => u = .string ⟨#[]⟩ | 4 => u = .bool true | 5 => u = .bool true | 6 => u = .bool true | 7 => u = .bool false | 8 => u = .bool false | 9 => u = undef | 10 => u = undef | 11 => u = .bool false | 12 => u = .bool false | 13 => u = .bool false | 14 => u = .bool true | 15 => u = .bool true | 16 => u = .int .i64 1 | 17 => u = .bool true | 18 => u = .bool true | 19 => u = .bool true | 20 => u = .bool true | 21 => u = .bool true | 22 => u = .bool true | 23 => u = .bool true | 24 => u = .bool true | 25 => u = .string ⟨#[]⟩ | 26 => u = .string ⟨#[]⟩ | 27 => u = .bool true | 28 => u = .bool true | 29 => u = .bool true | 30 => u = .bool false | 31 => u = .bool false | 32 => u = undef | 33 => u = undef | 34 => u = .bool false | 35 => u = .bool false | 36 => u = .bool false | 37 => u = .bool true | 38 => u = .bool true | 39 => u = .int .i64 2 | 40 => u = .bool true | 41 => u = .bool true | 42 => u = .bool true | 43 => u = .bool true | 44 => u = .bool true | 45 => u = .agg #[.bool sx, .slice Ax tx.length cx] | 46 => u = .string ⟨tt.toArray⟩ | 47 => u = .agg #[.bool sx, .slice Ax tx.length cx] | 48 => u = .string ⟨tt.toArray⟩ | 49 => u = .bool true | 50 => u = .bool true | _ => True) (fun _ => false)
    (by decide) rfl (by kernel_rfl) (by kernel_rfl) (by decide) (by kernel_rfl) (fun _ _ _ _ _ h _ => h) (fun _ _ _ h => by cases h) ?_ ?_
  · intro i a x K hi hF hb hw hK
    have hi' : i = 0 ∨ i = 1 ∨ i = 2 ∨ i = 3 ∨ i = 4 ∨ i = 5 ∨ i = 6 ∨ i = 7 ∨ i = 8 ∨ i = 9 ∨ i = 10 ∨ i = 11 ∨ i = 12 ∨ i = 13 ∨ i = 14 ∨ i = 15 ∨ i = 16 ∨ i = 17 ∨ i = 18 ∨ i = 19 ∨ i = 20 ∨ i = 21 ∨ i = 22 ∨ i = 23 ∨ i = 24 ∨ i = 25 ∨ i = 26 ∨ i = 27 ∨ i = 28 ∨ i = 29 ∨ i = 30 ∨ i = 31 ∨ i = 32 ∨ i = 33 ∨ i = 34 ∨ i = 35 ∨ i = 36 ∨ i = 37 ∨ i = 38 ∨ i = 39 ∨ i = 40 ∨ i = 41 ∨ i = 42 ∨ i = 43 ∨ i = 44 ∨ i = 45 ∨ i = 46 ∨ i = 47 ∨ i = 48 ∨ i = 49 ∨ i = 50 := by omega
    rcases hi' with rfl | rfl | rfl | rfl | rfl | rfl | rfl | rfl | rfl | rfl | rfl | rfl | rfl | rfl | rfl | rfl | rfl | rfl | rfl | rfl | rfl | rfl | rfl | rfl | rfl | rfl | rfl | rfl | rfl | rfl | rfl | rfl | rfl | rfl | rfl | rfl | rfl | rfl | rfl | rfl | rfl | rfl | rfl | rfl | rfl | rfl | rfl | rfl | rfl | rfl | rfl
    · simp only [wpOp, List.getElem?_toArray, List.getElem?_cons_zero, Region.wanted, if_true]
      refine Or.inl ?_
      have e0 : a.eval (.tmp 5) = .bool true := hF.2.2 5 (by decide)
      clear hw hF
      simp only [Oper.wp, execOp]
      rw [e0]
      go_simp
      exact hK _ x (by first | rfl | simp) (Below.refl _ _) (fun h => by cases h)
    · simp only [wpOp, List.getElem?_toArray, List.getElem?_cons_succ, List.getElem?_cons_zero, Region.wanted, if_true]
      refine Or.inl ?_
      have e0 : a.tmps.getD 48 undef = .bool true := hw 0 (by kernel_rfl)
      clear hw hF
      simp only [Oper.wp, execOp]
      go_simp
      exact hK _ x (by first | rfl | simp) (Below.refl _ _) (fun h => by cases h)
    · simp only [wpOp, List.getElem?_toArray, List.getElem?_cons_succ, List.getElem?_cons_zero]
      have eg : a.tmps.getD 49 undef = .bool true := hw 1 (by kernel_rfl)
      refine ite_yes (wanted_yes rfl (yielded_of (t := 49) (by kernel_rfl) eg)) ?_
      clear eg
      refine Or.inl ?_
      have e0 : a.eval (.tmp 6) = .string ⟨#[]⟩ := hF.2.2 6 (by decide)
      clear hw hF
      simp only [Oper.wp, execOp]
      rw [e0]
      go_simp
      exact hK _ x (by first | rfl | simp) (Below.refl _ _) (fun h => by cases h)
    · simp only [wpOp, List.getElem?_toArray, List.getElem?_cons_succ, List.getElem?_cons_zero]
      have eg : a.tmps.getD 49 undef = .bool true := hw 1 (by kernel_rfl)
      refine ite_yes (wanted_yes rfl (yielded_of (t := 49) (by kernel_rfl) eg)) ?_
      clear eg
      refine Or.inl ?_
      have e0 : a.eval (.tmp 8) = .string ⟨#[]⟩ := hF.2.2 8 (by decide)
      clear hw hF
      simp only [Oper.wp, execOp]
      rw [e0]
      go_simp
      exact hK _ x (by first | rfl | simp) (Below.refl _ _) (fun h => by cases h)
    · simp only [wpOp, List.getElem?_toArray, List.getElem?_cons_succ, List.getElem?_cons_zero]
      have eg : a.tmps.getD 49 undef = .bool true := hw 1 (by kernel_rfl)
      refine ite_yes (wanted_yes rfl (yielded_of (t := 49) (by kernel_rfl) eg)) ?_
      clear eg
      refine Or.inl ?_
      have e0 : a.tmps.getD 50 undef = .string ⟨#[]⟩ := hw 2 (by kernel_rfl)
      have e1 : a.tmps.getD 51 undef = .string ⟨#[]⟩ := hw 3 (by kernel_rfl)
      clear hw hF
      simp only [Oper.wp, execOp]
      go_simp
      exact hK _ x (by first | rfl | simp) (Below.refl _ _) (fun h => by cases h)
    · simp only [wpOp, List.getElem?_toArray, List.getElem?_cons_succ, List.getElem?_cons_zero, Region.wanted, if_true]
      refine Or.inl ?_
      have e0 : a.tmps.getD 49 undef = .bool true := hw 1 (by kernel_rfl)
      have e1 : a.tmps.getD 52 undef = .bool true := hw 4 (by kernel_rfl)
      clear hw hF
      simp only [Oper.wp, execOp]
      go_simp
      exact hK _ x (by first | rfl | simp) (Below.refl _ _) (fun h => by cases h)
    · simp only [wpOp, List.getElem?_toArray, List.getElem?_cons_succ, List.getElem?_cons_zero, Region.wanted, if_true]
      refine Or.inl ?_
      have e0 : a.tmps.getD 53 undef = .bool true := hw 5 (by kernel_rfl)
      clear hw hF
      simp only [Oper.wp, execOp]
      go_simp
      exact hK _ x (by first | rfl | simp) (Below.refl _ _) (fun h => by cases h)
    · simp only [wpOp, List.getElem?_toArray, List.getElem?_cons_succ, List.getElem?_cons_zero]
      have eg : a.tmps.getD 54 undef = .bool true := hw 6 (by kernel_rfl)
      refine ite_yes (wanted_yes rfl (yielded_of (t := 54) (by kernel_rfl) eg)) ?_
      clear eg
      refine Or.inl ?_
      have e0 : a.eval (.tmp 9) = .bool false := hF.2.2 9 (by decide)
      clear hw hF
      simp only [Oper.wp, execOp]
      rw [e0]
      go_simp
      exact hK _ x (by first | rfl | simp) (Below.refl _ _) (fun h => by cases h)
    · simp only [wpOp, List.getElem?_toArray, List.getElem?_cons_succ, List.getElem?_cons_zero]
      have eg : a.tmps.getD 54 undef = .bool true := hw 6 (by kernel_rfl)
      refine ite_yes (wanted_yes rfl (yielded_of (t := 54) (by kernel_rfl) eg)) ?_
      clear eg
      refine Or.inl ?_
      have e0 : a.tmps.getD 55 undef = .bool false := hw 7 (by kernel_rfl)
      clear hw hF
      simp only [Oper.wp, execOp]
      go_simp
      exact hK _ x (by first | rfl | simp) (Below.refl _ _) (fun h => by cases h)
    · simp only [wpOp, List.getElem?_toArray, List.getElem?_cons_succ, List.getElem?_cons_zero]
      have eg : a.tmps.getD 56 undef = .bool false := hw 8 (by kernel_rfl)
      refine ite_not (wanted_not rfl (yielded_of (t := 56) (by kernel_rfl) eg)) ?_
      exact hK _ x rfl (Below.refl _ _) (fun h => by cases h)
    · simp only [wpOp, List.getElem?_toArray, List.getElem?_cons_succ, List.getElem?_cons_zero]
      have eg : a.tmps.getD 56 undef = .bool false := hw 8 (by kernel_rfl)
      refine ite_not (wanted_not rfl (yielded_of (t := 56) (by kernel_rfl) eg)) ?_
      exact hK _ x rfl (Below.refl _ _) (fun h => by cases h)
    · simp only [wpOp, List.getElem?_toArray, List.getElem?_cons_succ, List.getElem?_cons_zero]
      have eg : a.tmps.getD 54 undef = .bool true := hw 6 (by kernel_rfl)
      refine ite_yes (wanted_yes rfl (yielded_of (t := 54) (by kernel_rfl) eg)) ?_
      clear eg
      refine Or.inl ?_
      have e0 : a.tmps.getD 56 undef = .bool false := hw 8 (by kernel_rfl)
      have e1 : a.tmps.getD 58 undef = undef := hw 10 (by kernel_rfl)
      clear hw hF
      simp only [Oper.wp, execOp]
      go_simp
      exact hK _ x (by first | rfl | simp) (Below.refl _ _) (fun h => by cases h)
    · simp only [wpOp, List.getElem?_toArray, List.getElem?_cons_succ, List.getElem?_cons_zero]
      have eg : a.tmps.getD 54 undef = .bool true := hw 6 (by kernel_rfl)
      refine ite_yes (wanted_yes rfl (yielded_of (t := 54) (by kernel_rfl) eg)) ?_
      clear eg
      refine Or.inl ?_
      have e0 : a.tmps.getD 59 undef = .bool false := hw 11 (by kernel_rfl)
      clear hw hF
      simp only [Oper.wp, execOp]
      go_simp
      exact hK _ x (by first | rfl | simp) (Below.refl _ _) (fun h => by cases h)
    · simp only [wpOp, List.getElem?_toArray, List.getElem?_cons_succ, List.getElem?_cons_zero]
      have eg : a.tmps.getD 60 undef = .bool false := hw 12 (by kernel_rfl)
      refine ite_yes (wanted_yes rfl (yielded_of (t := 60) (by kernel_rfl) eg)) ?_
      clear eg
      refine Or.inl ?_
      have e0 : a.eval (.tmp 9) = .bool false := hF.2.2 9 (by decide)
      clear hw hF
      simp only [Oper.wp, execOp]
      rw [e0]
      go_simp
      exact hK _ x (by first | rfl | simp) (Below.refl _ _) (fun h => by cases h)
    · simp only [wpOp, List.getElem?_toArray, List.getElem?_cons_succ, List.getElem?_cons_zero]
      have eg : a.tmps.getD 60 undef = .bool false := hw 12 (by kernel_rfl)
      refine ite_yes (wanted_yes rfl (yielded_of (t := 60) (by kernel_rfl) eg)) ?_
      clear eg
      refine Or.inl ?_
      have e0 : a.tmps.getD 61 undef = .bool false := hw 13 (by kernel_rfl)
      clear hw hF
      simp only [Oper.wp, execOp]
      go_simp
      exact hK _ x (by first | rfl | simp) (Below.refl _ _) (fun h => by cases h)
    · simp only [wpOp, List.getElem?_toArray, List.getElem?_cons_succ, List.getElem?_cons_zero]
      have eg : a.tmps.getD 60 undef = .bool false := hw 12 (by kernel_rfl)
      refine ite_yes (wanted_yes rfl (yielded_of (t := 60) (by kernel_rfl) eg)) ?_
      clear eg
      refine Or.inl ?_
      have e0 : a.tmps.getD 62 undef = .bool true := hw 14 (by kernel_rfl)
      clear hw hF
      simp only [Oper.wp, execOp]
      go_simp
      exact hK _ x (by first | rfl | simp) (Below.refl _ _) (fun h => by cases h)
    · simp only [wpOp, List.getElem?_toArray, List.getElem?_cons_succ, List.getElem?_cons_zero]
      have eg : a.tmps.getD 63 undef = .bool true := hw 15 (by kernel_rfl)
      refine ite_yes (wanted_yes rfl (yielded_of (t := 63) (by kernel_rfl) eg)) ?_
      clear eg
      refine Or.inl ?_
      have e0 : a.eval (.tmp 7) = .int .i64 1 := hF.2.2 7 (by decide)
      clear hw hF
      simp only [Oper.wp, execOp]
      rw [e0]
      go_simp
      exact hK _ x (by first | rfl | simp) (Below.refl _ _) (fun h => by cases h)
    · simp only [wpOp, List.getElem?_toArray, List.getElem?_cons_succ, List.getElem?_cons_zero]
      have eg : a.tmps.getD 63 undef = .bool true := hw 15 (by kernel_rfl)
      refine ite_yes (wanted_yes rfl (yielded_of (t := 63) (by kernel_rfl) eg)) ?_
      clear eg
      refine Or.inl ?_
      have e0 : a.tmps.getD 64 undef = .int .i64 1 := hw 16 (by kernel_rfl)
      clear hw hF
      simp only [Oper.wp, execOp]
      go_simp
      exact hK _ x (by first | rfl | simp) (Below.refl _ _) (fun h => by cases h)
    · simp only [wpOp, List.getElem?_toArray, List.getElem?_cons_succ, List.getElem?_cons_zero]
      have eg : a.tmps.getD 60 undef = .bool false := hw 12 (by kernel_rfl)
      refine ite_yes (wanted_yes rfl (yielded_of (t := 60) (by kernel_rfl) eg)) ?_
      clear eg
      refine Or.inl ?_
      have e0 : a.tmps.getD 63 undef = .bool true := hw 15 (by kernel_rfl)
      have e1 : a.tmps.getD 65 undef = .bool true := hw 17 (by kernel_rfl)
      clear hw hF
      simp only [Oper.wp, execOp]
      go_simp
      exact hK _ x (by first | rfl | simp) (Below.refl _ _) (fun h => by cases h)
    · simp only [wpOp, List.getElem?_toArray, List.getElem?_cons_succ, List.getElem?_cons_zero]
      have eg : a.tmps.getD 54 undef = .bool true := hw 6 (by kernel_rfl)
      refine ite_yes (wanted_yes rfl (yielded_of (t := 54) (by kernel_rfl) eg)) ?_
      clear eg
      refine Or.inl ?_
      have e0 : a.tmps.getD 60 undef = .bool false := hw 12 (by kernel_rfl)
      have e1 : a.tmps.getD 66 undef = .bool true := hw 18 (by kernel_rfl)
      clear hw hF
      simp only [Oper.wp, execOp]
      go_simp
      exact hK _ x (by first | rfl | simp) (Below.refl _ _) (fun h => by cases h)
    · simp only [wpOp, List.getElem?_toArray, List.getElem?_cons_succ, List.getElem?_cons_zero, Region.wanted, if_true]
      refine Or.inl ?_
      have e0 : a.tmps.getD 54 undef = .bool true := hw 6 (by kernel_rfl)
      have e1 : a.tmps.getD 67 undef = .bool true := hw 19 (by kernel_rfl)
      clear hw hF
      simp only [Oper.wp, execOp]
      go_simp
      exact hK _ x (by first | rfl | simp) (Below.refl _ _) (fun h => by cases h)
    · simp only [wpOp, List.getElem?_toArray, List.getElem?_cons_succ, List.getElem?_cons_zero, Region.wanted, if_true]
      refine Or.inl ?_
      have e0 : a.tmps.getD 68 undef = .bool true := hw 20 (by kernel_rfl)
      clear hw hF
      simp only [Oper.wp, execOp]
      go_simp
      exact hK _ x (by first | rfl | simp) (Below.refl _ _) (fun h => by cases h)
    · simp only [wpOp, List.getElem?_toArray, List.getElem?_cons_succ, List.getElem?_cons_zero]
      have eg : a.tmps.getD 69 undef = .bool true := hw 21 (by kernel_rfl)
      refine ite_yes (wanted_yes rfl (yielded_of (t := 69) (by kernel_rfl) eg)) ?_
      clear eg
      refine Or.inl ?_
      have e0 : a.eval (.tmp 16) = .bool true := hF.2.2 16 (by decide)
      clear hw hF
      simp only [Oper.wp, execOp]
      rw [e0]
      go_simp
      exact hK _ x (by first | rfl | simp) (Below.refl _ _) (fun h => by cases h)
    · simp only [wpOp, List.getElem?_toArray, List.getElem?_cons_succ, List.getElem?_cons_zero, Region.wanted, if_true]
      refine Or.inl ?_
      have e0 : a.tmps.getD 69 undef = .bool true := hw 21 (by kernel_rfl)
      have e1 : a.tmps.getD 70 undef = .bool true := hw 22 (by kernel_rfl)
      clear hw hF
      simp only [Oper.wp, execOp]
      go_simp
      exact hK _ x (by first | rfl | simp) (Below.refl _ _) (fun h => by cases h)
    · simp only [wpOp, List.getElem?_toArray, List.getElem?_cons_succ, List.getElem?_cons_zero, Region.wanted, if_true]
      refine Or.inl ?_
      have e0 : a.tmps.getD 71 undef = .bool true := hw 23 (by kernel_rfl)
      clear hw hF
      simp only [Oper.wp, execOp]
      go_simp
      exact hK _ x (by first | rfl | simp) (Below.refl _ _) (fun h => by cases h)
    · simp only [wpOp, List.getElem?_toArray, List.getElem?_cons_succ, List.getElem?_cons_zero]
      have eg : a.tmps.getD 72 undef = .bool true := hw 24 (by kernel_rfl)
      refine ite_yes (wanted_yes rfl (yielded_of (t := 72) (by kernel_rfl) eg)) ?_
      clear eg
      refine Or.inl ?_
      have e0 : a.eval (.tmp 11) = .string ⟨#[]⟩ := hF.2.2 11 (by decide)
      clear hw hF
      simp only [Oper.wp, execOp]
      rw [e0]
      go_simp
      exact hK _ x (by first | rfl | simp) (Below.refl _ _) (fun h => by cases h)
    · simp only [wpOp, List.getElem?_toArray, List.getElem?_cons_succ, List.getElem?_cons_zero]
      have eg : a.tmps.getD 72 undef = .bool true := hw 24 (by kernel_rfl)
      refine ite_yes (wanted_yes rfl (yielded_of (t := 72) (by kernel_rfl) eg)) ?_
      clear eg
      refine Or.inl ?_
      have e0 : a.eval (.tmp 14) = .string ⟨#[]⟩ := hF.2.2 14 (by decide)
      clear hw hF
      simp only [Oper.wp, execOp]
      rw [e0]
      go_simp
      exact hK _ x (by first | rfl | simp) (Below.refl _ _) (fun h => by cases h)
    · simp only [wpOp, List.getElem?_toArray, List.getElem?_cons_succ, List.getElem?_cons_zero]
      have eg : a.tmps.getD 72 undef = .bool true := hw 24 (by kernel_rfl)
      refine ite_yes (wanted_yes rfl (yielded_of (t := 72) (by kernel_rfl) eg)) ?_
      clear eg
      refine Or.inl ?_
      have e0 : a.tmps.getD 73 undef = .string ⟨#[]⟩ := hw 25 (by kernel_rfl)
      have e1 : a.tmps.getD 74 undef = .string ⟨#[]⟩ := hw 26 (by kernel_rfl)
      clear hw hF
      simp only [Oper.wp, execOp]
      go_simp
      exact hK _ x (by first | rfl | simp) (Below.refl _ _) (fun h => by cases h)
    · simp only [wpOp, List.getElem?_toArray, List.getElem?_cons_succ, List.getElem?_cons_zero, Region.wanted, if_true]
      refine Or.inl ?_
      have e0 : a.tmps.getD 72 undef = .bool true := hw 24 (by kernel_rfl)
      have e1 : a.tmps.getD 75 undef = .bool true := hw 27 (by kernel_rfl)
      clear hw hF
      simp only [Oper.wp, execOp]
      go_simp
      exact hK _ x (by first | rfl | simp) (Below.refl _ _) (fun h => by cases h)
    · simp only [wpOp, List.getElem?_toArray, List.getElem?_cons_succ, List.getElem?_cons_zero, Region.wanted, if_true]
      refine Or.inl ?_
      have e0 : a.tmps.getD 76 undef = .bool true := hw 28 (by kernel_rfl)
      clear hw hF
      simp only [Oper.wp, execOp]
      go_simp
      exact hK _ x (by first | rfl | simp) (Below.refl _ _) (fun h => by cases h)
    · simp only [wpOp, List.getElem?_toArray, List.getElem?_cons_succ, List.getElem?_cons_zero]
      have eg : a.tmps.getD 77 undef = .bool true := hw 29 (by kernel_rfl)
      refine ite_yes (wanted_yes rfl (yielded_of (t := 77) (by kernel_rfl) eg)) ?_
      clear eg
      refine Or.inl ?_
      have e0 : a.eval (.tmp 15) = .bool false := hF.2.2 15 (by decide)
      clear hw hF
      simp only [Oper.wp, execOp]
      rw [e0]
      go_simp
      exact hK _ x (by first | rfl | simp) (Below.refl _ _) (fun h => by cases h)
    · simp only [wpOp, List.getElem?_toArray, List.getElem?_cons_succ, List.getElem?_cons_zero]
      have eg : a.tmps.getD 77 undef = .bool true := hw 29 (by kernel_rfl)
      refine ite_yes (wanted_yes rfl (yielded_of (t := 77) (by kernel_rfl) eg)) ?_
      clear eg
      refine Or.inl ?_
      have e0 : a.tmps.getD 78 undef = .bool false := hw 30 (by kernel_rfl)
      clear hw hF
      simp only [Oper.wp, execOp]
      go_simp
      exact hK _ x (by first | rfl | simp) (Below.refl _ _) (fun h => by cases h)
    · simp only [wpOp, List.getElem?_toArray, List.getElem?_cons_succ, List.getElem?_cons_zero]
      have eg : a.tmps.getD 79 undef = .bool false := hw 31 (by kernel_rfl)
      refine ite_not (wanted_not rfl (yielded_of (t := 79) (by kernel_rfl) eg)) ?_
      exact hK _ x rfl (Below.refl _ _) (fun h => by cases h)
    · simp only [wpOp, List.getElem?_toArray, List.getElem?_cons_succ, List.getElem?_cons_zero]
      have eg : a.tmps.getD 79 undef = .bool false := hw 31 (by kernel_rfl)
      refine ite_not (wanted_not rfl (yielded_of (t := 79) (by kernel_rfl) eg)) ?_
      exact hK _ x rfl (Below.refl _ _) (fun h => by cases h)
    · simp only [wpOp, List.getElem?_toArray, List.getElem?_cons_succ, List.getElem?_cons_zero]
      have eg : a.tmps.getD 77 undef = .bool true := hw 29 (by kernel_rfl)
      refine ite_yes (wanted_yes rfl (yielded_of (t := 77) (by kernel_rfl) eg)) ?_
      clear eg
      refine Or.inl ?_
      have e0 : a.tmps.getD 79 undef = .bool false := hw 31 (by kernel_rfl)
      have e1 : a.tmps.getD 81 undef = undef := hw 33 (by kernel_rfl)
      clear hw hF
      simp only [Oper.wp, execOp]
      go_simp
      exact hK _ x (by first | rfl | simp) (Below.refl _ _) (fun h => by cases h)
    · simp only [wpOp, List.getElem?_toArray, List.getElem?_cons_succ, List.getElem?_cons_zero]
      have eg : a.tmps.getD 77 undef = .bool true := hw 29 (by kernel_rfl)
      refine ite_yes (wanted_yes rfl (yielded_of (t := 77) (by kernel_rfl) eg)) ?_
      clear eg
      refine Or.inl ?_
      have e0 : a.tmps.getD 82 undef = .bool false := hw 34 (by kernel_rfl)
      clear hw hF
      simp only [Oper.wp, execOp]
      go_simp
      exact hK _ x (by first | rfl | simp) (Below.refl _ _) (fun h => by cases h)
    · simp only [wpOp, List.getElem?_toArray, List.getElem?_cons_succ, List.getElem?_cons_zero]
      have eg : a.tmps.getD 83 undef = .bool false := hw 35 (by kernel_rfl)
      refine ite_yes (wanted_yes rfl (yielded_of (t := 83) (by kernel_rfl) eg)) ?_
      clear eg
      refine Or.inl ?_
      have e0 : a.eval (.tmp 15) = .bool false := hF.2.2 15 (by decide)
      clear hw hF
      simp only [Oper.wp, execOp]
      rw [e0]
      go_simp
      exact hK _ x (by first | rfl | simp) (Below.refl _ _) (fun h => by cases h)
    · simp only [wpOp, List.getElem?_toArray, List.getElem?_cons_succ, List.getElem?_cons_zero]
      have eg : a.tmps.getD 83 undef = .bool false := hw 35 (by kernel_rfl)
      refine ite_yes (wanted_yes rfl (yielded_of (t := 83) (by kernel_rfl) eg)) ?_
      clear eg
      refine Or.inl ?_
      have e0 : a.tmps.getD 84 undef = .bool false := hw 36 (by kernel_rfl)
      clear hw hF
      simp only [Oper.wp, execOp]
      go_simp
      exact hK _ x (by first | rfl | simp) (Below.refl _ _) (fun h => by cases h)
    · simp only [wpOp, List.getElem?_toArray, List.getElem?_cons_succ, List.getElem?_cons_zero]
      have eg : a.tmps.getD 83 undef = .bool false := hw 35 (by kernel_rfl)
      refine ite_yes (wanted_yes rfl (yielded_of (t := 83) (by kernel_rfl) eg)) ?_
      clear eg
      refine Or.inl ?_
      have e0 : a.tmps.getD 85 undef = .bool true := hw 37 (by kernel_rfl)
      clear hw hF
      simp only [Oper.wp, execOp]
      go_simp
      exact hK _ x (by first | rfl | simp) (Below.refl _ _) (fun h => by cases h)
    · simp only [wpOp, List.getElem?_toArray, List.getElem?_cons_succ, List.getElem?_cons_zero]
      have eg : a.tmps.getD 86 undef = .bool true := hw 38 (by kernel_rfl)
      refine ite_yes (wanted_yes rfl (yielded_of (t := 86) (by kernel_rfl) eg)) ?_
      clear eg
      refine Or.inl ?_
      have e0 : a.eval (.tmp 12) = .int .i64 2 := hF.2.2 12 (by decide)
      clear hw hF
      simp only [Oper.wp, execOp]
      rw [e0]
      go_simp
      exact hK _ x (by first | rfl | simp) (Below.refl _ _) (fun h => by cases h)
    · simp only [wpOp, List.getElem?_toArray, List.getElem?_cons_succ, List.getElem?_cons_zero]
      have eg : a.tmps.getD 86 undef = .bool true := hw 38 (by kernel_rfl)
      refine ite_yes (wanted_yes rfl (yielded_of (t := 86) (by kernel_rfl) eg)) ?_
      clear eg
      refine Or.inl ?_
      have e0 : a.tmps.getD 87 undef = .int .i64 2 := hw 39 (by kernel_rfl)
      clear hw hF
      simp only [Oper.wp, execOp]
      go_simp
      exact hK _ x (by first | rfl | simp) (Below.refl _ _) (fun h => by cases h)
    · simp only [wpOp, List.getElem?_toArray, List.getElem?_cons_succ, List.getElem?_cons_zero]
      have eg : a.tmps.getD 83 undef = .bool false := hw 35 (by kernel_rfl)
      refine ite_yes (wanted_yes rfl (yielded_of (t := 83) (by kernel_rfl) eg)) ?_
      clear eg
      refine Or.inl ?_
      have e0 : a.tmps.getD 86 undef = .bool true := hw 38 (by kernel_rfl)
      have e1 : a.tmps.getD 88 undef = .bool true := hw 40 (by kernel_rfl)
      clear hw hF
      simp only [Oper.wp, execOp]
      go_simp
      exact hK _ x (by first | rfl | simp) (Below.refl _ _) (fun h => by cases h)
    · simp only [wpOp, List.getElem?_toArray, List.getElem?_cons_succ, List.getElem?_cons_zero]
      have eg : a.tmps.getD 77 undef = .bool true := hw 29 (by kernel_rfl)
      refine ite_yes (wanted_yes rfl (yielded_of (t := 77) (by kernel_rfl) eg)) ?_
      clear eg
      refine Or.inl ?_
      have e0 : a.tmps.getD 83 undef = .bool false := hw 35 (by kernel_rfl)
      have e1 : a.tmps.getD 89 undef = .bool true := hw 41 (by kernel_rfl)
      clear hw hF
      simp only [Oper.wp, execOp]
      go_simp
      exact hK _ x (by first | rfl | simp) (Below.refl _ _) (fun h => by cases h)
    · simp only [wpOp, List.getElem?_toArray, List.getElem?_cons_succ, List.getElem?_cons_zero, Region.wanted, if_true]
      refine Or.inl ?_
      have e0 : a.tmps.getD 77 undef = .bool true := hw 29 (by kernel_rfl)
      have e1 : a.tmps.getD 90 undef = .bool true := hw 42 (by kernel_rfl)
      clear hw hF
      simp only [Oper.wp, execOp]
      go_simp
      exact hK _ x (by first | rfl | simp) (Below.refl _ _) (fun h => by cases h)
    · simp only [wpOp, List.getElem?_toArray, List.getElem?_cons_succ, List.getElem?_cons_zero, Region.wanted, if_true]
      refine Or.inl ?_
      have e0 : a.tmps.getD 91 undef = .bool true := hw 43 (by kernel_rfl)
      clear hw hF
      simp only [Oper.wp, execOp]
      go_simp
      exact hK _ x (by first | rfl | simp) (Below.refl _ _) (fun h => by cases h)
    · simp only [wpOp, List.getElem?_toArray, List.getElem?_cons_succ, List.getElem?_cons_zero]
      have eg : a.tmps.getD 92 undef = .bool true := hw 44 (by kernel_rfl)
      refine ite_yes (wanted_yes rfl (yielded_of (t := 92) (by kernel_rfl) eg)) ?_
      clear eg
      refine Or.inl ?_
      have e0 : a.eval (.tmp 17) = .pointer (some ⟨w7.heap.size, 0, none⟩) := hF.2.2 17 (by decide)
      have f0 := row_cell Ry_8.out hb 0
      have f1 := row_cell Ry_8.out hb 1
      simp only [List.getElem?_toArray, List.getElem?_cons_succ, List.getElem?_cons_zero] at f0 f1
      clear hw hF
      simp only [Oper.wp, execOp]
      rw [e0]
      go_simp
      exact hK _ x (by first | rfl | simp) (Below.refl _ _) (fun h => by cases h)
    · simp only [wpOp, List.getElem?_toArray, List.getElem?_cons_succ, List.getElem?_cons_zero]
      have eg : a.tmps.getD 92 undef = .bool true := hw 44 (by kernel_rfl)
      refine ite_yes (wanted_yes rfl (yielded_of (t := 92) (by kernel_rfl) eg)) ?_
      clear eg
      refine Or.inl ?_
      have e0 : a.tmps.getD 93 undef = .agg #[.bool sx, .slice Ax tx.length cx] := hw 45 (by kernel_rfl)
      clear hw hF
      simp only [Oper.wp, execOp]
      go_simp
      refine (ztext_z ((L8.out.step hb).get (A := Ax) (c := cx) (xs := tx) (by simp)) HVx.out (Nat.le_trans lbx12.out (by omega)) (p10_below HT.out (L8.out.step hb).1) HTT.out).mono ?_
      rintro e y ⟨rfl, hbb⟩
      exact hK _ y rfl hbb (fun h => by cases h)
    · simp only [wpOp, List.getElem?_toArray, List.getElem?_cons_succ, List.getElem?_cons_zero]
      have eg : a.tmps.getD 92 undef = .bool true := hw 44 (by kernel_rfl)
      refine ite_yes (wanted_yes rfl (yielded_of (t := 92) (by kernel_rfl) eg)) ?_
      clear eg
      refine Or.inl ?_
      have e0 : a.eval (.tmp 17) = .pointer (some ⟨w7.heap.size, 0, none⟩) := hF.2.2 17 (by decide)
      have f0 := row_cell Ry_8.out hb 0
      have f1 := row_cell Ry_8.out hb 1
      simp only [List.getElem?_toArray, List.getElem?_cons_succ, List.getElem?_cons_zero] at f0 f1
      clear hw hF
      simp only [Oper.wp, execOp]
      rw [e0]
      go_simp
      exact hK _ x (by first | rfl | simp) (Below.refl _ _) (fun h => by cases h)
    · simp only [wpOp, List.getElem?_toArray, List.getElem?_cons_succ, List.getElem?_cons_zero]
      have eg : a.tmps.getD 92 undef = .bool true := hw 44 (by kernel_rfl)
      refine ite_yes (wanted_yes rfl (yielded_of (t := 92) (by kernel_rfl) eg)) ?_
      clear eg
      refine Or.inl ?_
      have e0 : a.tmps.getD 95 undef = .agg #[.bool sx, .slice Ax tx.length cx] := hw 47 (by kernel_rfl)
      clear hw hF
      simp only [Oper.wp, execOp]
      go_simp
      refine (rtext_z ((L8.out.step hb).get (A := Ax) (c := cx) (xs := tx) (by simp)) HVx.out (Nat.le_trans lbx12.out (by omega)) HTT.out).mono ?_
      rintro e y ⟨rfl, hbb⟩
      exact hK _ y rfl hbb (fun h => by cases h)
    · simp only [wpOp, List.getElem?_toArray, List.getElem?_cons_succ, List.getElem?_cons_zero]
      have eg : a.tmps.getD 92 undef = .bool true := hw 44 (by kernel_rfl)
      refine ite_yes (wanted_yes rfl (yielded_of (t := 92) (by kernel_rfl) eg)) ?_
      clear eg
      refine Or.inl ?_
      have e0 : a.tmps.getD 94 undef = .string ⟨tt.toArray⟩ := hw 46 (by kernel_rfl)
      have e1 : a.tmps.getD 96 undef = .string ⟨tt.toArray⟩ := hw 48 (by kernel_rfl)
      clear hw hF
      simp only [Oper.wp, execOp]
      go_simp
      exact hK _ x (by first | rfl | simp) (Below.refl _ _) (fun h => by cases h)
    · simp only [wpOp, List.getElem?_toArray, List.getElem?_cons_succ, List.getElem?_cons_zero, Region.wanted, if_true]
      refine Or.inl ?_
      have e0 : a.tmps.getD 92 undef = .bool true := hw 44 (by kernel_rfl)
      have e1 : a.tmps.getD 97 undef = .bool true := hw 49 (by kernel_rfl)
      clear hw hF
      simp only [Oper.wp, execOp]
      go_simp
      exact hK _ x (by first | rfl | simp) (Below.refl _ _) (fun h => by cases h)
  · intro a x hF hb hR _
    have e0 : a.tmps.getD 48 undef = .bool true := hR 0 (by decide)
    have e1 : a.tmps.getD 49 undef = .bool true := hR 1 (by decide)
    have e2 : a.tmps.getD 50 undef = .string ⟨#[]⟩ := hR 2 (by decide)
    have e3 : a.tmps.getD 51 undef = .string ⟨#[]⟩ := hR 3 (by decide)
    have e4 : a.tmps.getD 52 undef = .bool true := hR 4 (by decide)
    have e5 : a.tmps.getD 53 undef = .bool true := hR 5 (by decide)
    have e6 : a.tmps.getD 54 undef = .bool true := hR 6 (by decide)
    have e7 : a.tmps.getD 55 undef = .bool false := hR 7 (by decide)
    have e8 : a.tmps.getD 56 undef = .bool false := hR 8 (by decide)
    have e9 : a.tmps.getD 57 undef = undef := hR 9 (by decide)
    have e10 : a.tmps.getD 58 undef = undef := hR 10 (by decide)
    have e11 : a.tmps.getD 59 undef = .bool false := hR 11 (by decide)
    have e12 : a.tmps.getD 60 undef = .bool false := hR 12 (by decide)
    have e13 : a.tmps.getD 61 undef = .bool false := hR 13 (by decide)
    have e14 : a.tmps.getD 62 undef = .bool true := hR 14 (by decide)
    have e15 : a.tmps.getD 63 undef = .bool true := hR 15 (by decide)
    have e16 : a.tmps.getD 64 undef = .int .i64 1 := hR 16 (by decide)
    have e17 : a.tmps.getD 65 undef = .bool true := hR 17 (by decide)
    have e18 : a.tmps.getD 66 undef = .bool true := hR 18 (by decide)
    have e19 : a.tmps.getD 67 undef = .bool true := hR 19 (by decide)
    have e20 : a.tmps.getD 68 undef = .bool true := hR 20 (by decide)
    have e21 : a.tmps.getD 69 undef = .bool true := hR 21 (by decide)
    have e22 : a.tmps.getD 70 undef = .bool true := hR 22 (by decide)
    have e23 : a.tmps.getD 71 undef = .bool true := hR 23 (by decide)
    have e24 : a.tmps.getD 72 undef = .bool true := hR 24 (by decide)
    have e25 : a.tmps.getD 73 undef = .string ⟨#[]⟩ := hR 25 (by decide)
    have e26 : a.tmps.getD 74 undef = .string ⟨#[]⟩ := hR 26 (by decide)
    have e27 : a.tmps.getD 75 undef = .bool true := hR 27 (by decide)
    have e28 : a.tmps.getD 76 undef = .bool true := hR 28 (by decide)
    have e29 : a.tmps.getD 77 undef = .bool true := hR 29 (by decide)
    have e30 : a.tmps.getD 78 undef = .bool false := hR 30 (by decide)
    have e31 : a.tmps.getD 79 undef = .bool false := hR 31 (by decide)
    have e32 : a.tmps.getD 80 undef = undef := hR 32 (by decide)
    have e33 : a.tmps.getD 81 undef = undef := hR 33 (by decide)
    have e34 : a.tmps.getD 82 undef = .bool false := hR 34 (by decide)
    have e35 : a.tmps.getD 83 undef = .bool false := hR 35 (by decide)
    have e36 : a.tmps.getD 84 undef = .bool false := hR 36 (by decide)
    have e37 : a.tmps.getD 85 undef = .bool true := hR 37 (by decide)
    have e38 : a.tmps.getD 86 undef = .bool true := hR 38 (by decide)
    have e39 : a.tmps.getD 87 undef = .int .i64 2 := hR 39 (by decide)
    have e40 : a.tmps.getD 88 undef = .bool true := hR 40 (by decide)
    have e41 : a.tmps.getD 89 undef = .bool true := hR 41 (by decide)
    have e42 : a.tmps.getD 90 undef = .bool true := hR 42 (by decide)
    have e43 : a.tmps.getD 91 undef = .bool true := hR 43 (by decide)
    have e44 : a.tmps.getD 92 undef = .bool true := hR 44 (by decide)
    have e45 : a.tmps.getD 93 undef = .agg #[.bool sx, .slice Ax tx.length cx] := hR 45 (by decide)
    have e46 : a.tmps.getD 94 undef = .string ⟨tt.toArray⟩ := hR 46 (by decide)
    have e47 : a.tmps.getD 95 undef = .agg #[.bool sx, .slice Ax tx.length cx] := hR 47 (by decide)
    have e48 : a.tmps.getD 96 undef = .string ⟨tt.toArray⟩ := hR 48 (by decide)
    have e49 : a.tmps.getD 97 undef = .bool true := hR 49 (by decide)
    have e50 : a.tmps.getD 98 undef = .bool true := hR 50 (by decide)
    rw [hF.fold (by kernel_rfl)]
    simp only [List.foldl_cons, List.foldl_nil, e0, e1, e2, e3, e4, e5, e6, e7, e8, e9, e10, e11, e12, e13, e14, e15, e16, e17, e18, e19, e20, e21, e22, e23, e24, e25, e26, e27, e28, e29, e30, e31, e32, e33, e34, e35, e36, e37, e38, e39, e40, e41, e42, e43, e44, e45, e46, e47, e48, e49, e50]
    simp only [Act.put, List.setIfInBounds_toArray, List.set_cons_zero, List.set_cons_succ]
    change wpOps _ _ _ [51] _ _
    simp only [wpOps_cons]
    clear e0 e1 e2 e3 e4 e5 e6 e7 e8 e9 e10 e11 e12 e13 e14 e15 e16 e17 e18 e19 e20 e21 e22 e23 e24 e25 e26 e27 e28 e29 e30 e31 e32 e33 e34 e35 e36 e37 e38 e39 e40 e41 e42 e43 e44 e45 e46 e47 e48 e49 e50 hR hF
    have HE := Lib.hid (L8.out.step hb)
    simp only [wpOp, List.getElem?_toArray, List.getElem?_cons_succ, List.getElem?_cons_zero, Region.wanted, if_true]
    refine Or.inl ?_
    simp only [Oper.wp, execOp]
    go_simp
    try simp only [wpOps]
    go_wp2
    go_ret
    exact ⟨rfl, HE.out.1⟩
end Go.Proofs.YthgkdpfkaobgoaaDoor
end

section
/-
  The law ZintBytes of chapter 4, for every argument.
-/
namespace Go.Proofs.YthgkdpfkaobgoaaDoor
open Go.RowKit
theorem zlbytes_any (Ax : Option Addr) (cx : Nat) (sx : Bool) (xsx : List Nat) (b : ByteArray) (lx : xsx.length ≤ 9223372036854775807) (hmax : b.data.toList.length ≤ 9223372036854775807) (w : World) (hx : Dg w Ax cx xsx) (htab : P10 w) :
    Calls Tryd.prog 5 #[.agg #[.bool sx, .slice Ax xsx.length cx], .string b] w fun e w' => e = .returned (.bool true) ∧ Below w.heap.size w w' := by
  by_cases h1 : rightB sx xsx = true ∧ xsx.length ≤ 400
  · by_cases h2 : tkOk b.data.toList
    · exact zlbytes_yy Ax cx sx xsx b lx hmax h1.1 h1.2 h2 w hx htab
    · exact zlbytes_yn Ax cx sx xsx b lx hmax h1.1 h1.2 h2 w hx htab
  · have h3 : rightB sx xsx = false ∨ 400 < xsx.length := by
      cases hr : rightB sx xsx
      · exact .inl rfl
      · exact .inr (by have : ¬ xsx.length ≤ 400 := fun h => h1 ⟨hr, h⟩; omega)
    by_cases h2 : tkOk b.data.toList
    · exact zlbytes_ny Ax cx sx xsx b lx hmax h3 h2 w hx htab
    · exact zlbytes_nn Ax cx sx xsx b lx hmax h3 h2 w hx htab
end Go.Proofs.YthgkdpfkaobgoaaDoor
end
