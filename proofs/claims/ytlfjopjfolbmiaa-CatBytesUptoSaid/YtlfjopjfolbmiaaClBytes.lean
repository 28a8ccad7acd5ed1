/-
  astrolabelaw23.CatBytes: a list's bytes and the list of some bytes, as the document says them.
-/
import Derived.Test.YtlfjopjfolbmiaaDd
namespace Go.Proofs.Ytlfjopjfolbmiaa
open Go.RowKit
theorem ite_yes {c : Prop} [Decidable c] {a b : Prop} (hc : c) (ha : a) : if c then a else b := by rw [if_pos hc]; exact ha
theorem ite_not {c : Prop} [Decidable c] {a b : Prop} (hc : ¬ c) (hb : b) : if c then a else b := by rw [if_neg hc]; exact hb
theorem yielded_of {ops : Array Oper} {tmps : Array Value} {j : Nat} {t : Tmp} {b : Bool} (h1 : (ops[j]?).bind (·.dst) = some t) (h2 : tmps.getD t undef = .bool b) : yielded ops tmps j = some b := by
  unfold yielded
  rw [h1]
  simp only [Option.bind_some]
  rcases h : tmps[t]? with _ | v
  · rw [Array.getD_eq_getD_getElem?, h] at h2; cases h2
  · rw [Array.getD_eq_getD_getElem?, h] at h2
    simp only [Option.getD_some] at h2
    rw [h2]
theorem yielded_none {ops : Array Oper} {tmps : Array Value} {j : Nat} {t : Tmp} (h1 : (ops[j]?).bind (·.dst) = some t) (h2 : tmps.getD t undef = undef) : yielded ops tmps j = none := by
  unfold yielded
  rw [h1]
  simp only [Option.bind_some]
  rcases h : tmps[t]? with _ | v
  · rfl
  · rw [Array.getD_eq_getD_getElem?, h] at h2
    simp only [Option.getD_some] at h2
    rw [h2]; rfl
theorem wanted_none {o : Oper} {f : Nat → Option Bool} {j : Nat} {b : Bool} (hg : o.guard = some (j, b)) (hf : f j = none) : ¬ Region.wanted o f = true := by
  simp [Region.wanted, hg, hf]
theorem wanted_yes {o : Oper} {f : Nat → Option Bool} {j : Nat} {b : Bool} (hg : o.guard = some (j, b)) (hf : f j = some b) : Region.wanted o f = true := by
  simp [Region.wanted, hg, hf]
theorem wanted_not {o : Oper} {f : Nat → Option Bool} {j : Nat} {b : Bool} (hg : o.guard = some (j, b)) (hf : f j = some (!b)) : ¬ Region.wanted o f = true := by
  cases b <;> simp [Region.wanted, hg, hf]
set_option maxHeartbeats 16000000 in
set_option maxRecDepth 100000 in
theorem bytes_yy (next : Int) (A : Option Addr) (c : Nat) (vs : List (Int × Int)) (S : List UInt8) (w : World) (h : Vs w A c vs) (zs : List (Int × Int)) (hz : vs.take 15 = zs) (t : ByteArray) (N2 : Int) (L2 : List (Int × Int)) (l2 : L2.length ≤ 100000)
    (hE1 : ∀ A c V, Vs V A c zs → Calls Try.prog 9 #[.agg #[.int .i64 next, .slice A zs.length c]] V fun e w' => e = .returned (.tuple #[.string t, .int .i64 0]) ∧ Below V.heap.size V w')
    (hE2 : ∀ A c V, Vs V A c zs → Calls Try.prog 10 #[.agg #[.int .i64 next, .slice A zs.length c]] V fun e w' => e = .returned (.tuple #[.string t, .bool true]) ∧ Below V.heap.size V w')
    (hD1 : ∀ V, Calls Try.prog 12 #[.string ⟨S.toArray⟩] V fun e w' => ∃ A' c', e = .returned (.tuple #[.agg #[.int .i64 N2, .slice A' L2.length c'], .int .i64 0]) ∧ Vs w' A' c' L2 ∧ Below V.heap.size V w')
    (hD2 : ∀ V, Calls Try.prog 13 #[.string ⟨S.toArray⟩] V fun e w' => ∃ A' c', e = .returned (.tuple #[.agg #[.int .i64 N2, .slice A' L2.length c'], .bool true]) ∧ Vs w' A' c' L2 ∧ Below V.heap.size V w') :
    Calls Try.prog 3 #[.agg #[.int .i64 next, .slice A vs.length c], .string ⟨S.toArray⟩] w fun e w' => e = .returned (.bool true) ∧ Below w.heap.size w w' := by
  have H := Lib.hid h
  have FW := Lib.hid (fun V (hV : Vs V A c vs) => few_any next A c vs V hV)
  have lz : zs.length ≤ 15 := by rw [← hz, List.length_take]; omega
  rw [hz] at FW
  have EN1 := Lib.hid hE1
  have EN2 := Lib.hid hE2
  have DE1 := Lib.hid hD1
  have DE2 := Lib.hid hD2
  obtain ⟨rb, hrb⟩ : ∃ b, rightB next zs = b := ⟨_, rfl⟩
  have RG := Lib.hid (fun A c V (hV : Vs V A c zs) => right_any next A c zs V hV (by omega))
  have RG2 := Lib.hid (fun A c V (hV : Vs V A c zs) => rright_any next A c zs V hV (by omega))
  rw [hrb] at RG RG2
  have RE := Lib.hid (fun A c V (hV : Vs V A c zs) => ref_any next A c zs V hV (by omega))
  have LI2 := Lib.hid (fun A B c d V (h1 : Vs V A c L2) (h2 : Vs V B d L2) => lists_any N2 A B c d L2 V h1 h2 l2)
  clear h hz hE1 hE2 hD1 hD2 l2 hrb
  go_enter Try.func3, Try.ntmps3
  go_wp2_with fail
  refine (examples_any _).mono ?_
  rintro e w1 ⟨rfl, hb⟩
  have K1 := Lib.hid (bon (bda w (.cells #[.int .i64 next, .slice A vs.length c] 24)) hb)
  have R1 := Lib.hid (row_on (heap_alloc_new w (.cells #[.int .i64 next, .slice A vs.length c] 24)) hb)
  clear hb
  have f0 := row_c R1.out (i := 0) rfl
  have f1 := row_c R1.out (i := 1) rfl
  go_wp2_with fail
  refine (FW.out _ (H.out.below K1.out)).mono ?_
  rintro e w2 ⟨A2, c2, rfl, hv, hb, hf⟩
  have r2 := row_on R1.out hb
  have q0 := row_c r2 (i := 0) rfl
  have q1 := row_c r2 (i := 1) rfl
  have z0 := frozen_of_row _ _ 0 _ _ r2
  have z1 := frozen_of_row _ _ 1 _ _ r2
  obtain ⟨w3, hw3⟩ : ∃ W : World, W = (w2.setCell ⟨w.heap.size, 0, none⟩ (.int .i64 next)).setCell ⟨w.heap.size, 1, none⟩ (.slice A2 zs.length c2) := ⟨_, rfl⟩
  have HW := Lib.hid hw3
  have s1 : w.heap.size < w1.heap.size := heap_lt R1.out
  have V3 := Lib.hid (show Vs w3 A2 c2 zs by rw [hw3]; exact (hv.set hf s1 _ _).set hf s1 _ _)
  have K3 := Lib.hid (show Below w.heap.size w w3 by rw [hw3]; exact ((bon K1.out hb).setCell (Nat.le_refl _) _).setCell (Nat.le_refl _) _)
  have R3 := Lib.hid (show w3.heap[w.heap.size]? = some (.cells #[.int .i64 next, .slice A2 zs.length c2] 24) by
    rw [hw3]
    have e1 := heap_setCell_same w2 w.heap.size 0 _ _ (.int .i64 next) r2
    exact heap_setCell_same _ w.heap.size 1 _ _ (.slice A2 zs.length c2) e1)
  clear hb hv hf f0 f1 r2 hw3
  go_upto_region 5 with (fail)
  rw [← HW.out]
  clear q0 q1 z0 z1 HW
  have f0 : w3.cell? ⟨w.heap.size, 0, none⟩ = some (.int .i64 next) := row_c R3.out (i := 0) rfl
  have f1 : w3.cell? ⟨w.heap.size, 1, none⟩ = some (.slice A2 zs.length c2) := row_c R3.out (i := 1) rfl
  have B0 := R3
  clear f0 f1
  have B0a := row_c B0.out (i := 0) rfl
  have B0b := row_c B0.out (i := 1) rfl
  go_wp2_with fail
  refine (EN1.out A2 c2 _ V3.out).mono ?_
  rintro e w4 ⟨rfl, hb⟩
  clear B0a B0b
  have Kw4 := Lib.hid (K3.out.trans (hb.mono K3.out.size))
  have B0 := Lib.hid (row_on B0.out hb)
  have V3 := Lib.hid (V3.out.below hb)
  clear hb
  have B0a := row_c B0.out (i := 0) rfl
  have B0b := row_c B0.out (i := 1) rfl
  go_wp2_with fail
  refine (RE.out A2 c2 _ V3.out).mono ?_
  rintro e w5 ⟨A4, c4, rfl, hv, hb, _⟩
  clear B0a B0b
  have Kw5 := Lib.hid (Kw4.out.trans (hb.mono Kw4.out.size))
  have B0 := Lib.hid (row_on B0.out hb)
  have V3 := Lib.hid (V3.out.below hb)
  have V4 := Lib.hid hv
  clear hv hb
  have B0a := row_c B0.out (i := 0) rfl
  have B0b := row_c B0.out (i := 1) rfl
  go_wp2_with fail
  refine (EN2.out A4 c4 _ V4.out).mono ?_
  rintro e w6 ⟨rfl, hb⟩
  clear B0a B0b
  have Kw6 := Lib.hid (Kw5.out.trans (hb.mono Kw5.out.size))
  have B0 := Lib.hid (row_on B0.out hb)
  have V3 := Lib.hid (V3.out.below hb)
  have V4 := Lib.hid (V4.out.below hb)
  clear hb
  have B0a := row_c B0.out (i := 0) rfl
  have B0b := row_c B0.out (i := 1) rfl
  go_wp2_with fail
  refine (DE1.out _).mono ?_
  rintro e w7 ⟨A7, c7, rfl, hv, hb⟩
  clear B0a B0b
  have Kw7 := Lib.hid (Kw6.out.trans (hb.mono Kw6.out.size))
  have B0 := Lib.hid (row_on B0.out hb)
  have V3 := Lib.hid (V3.out.below hb)
  have V4 := Lib.hid (V4.out.below hb)
  have V7 := Lib.hid hv
  clear hv hb
  have B0a := row_c B0.out (i := 0) rfl
  have B0b := row_c B0.out (i := 1) rfl
  go_upto_region 8 with (fail)
  clear B0a B0b
  obtain ⟨u7, hu7⟩ : ∃ U : World, U = w7.alloc (.cells #[.int .i64 N2, .slice A7 L2.length c7] 24) := ⟨_, rfl⟩
  have B2 := Lib.hid (show u7.heap[w7.heap.size]? = some (.cells #[.int .i64 N2, .slice A7 L2.length c7] 24) by rw [hu7]; exact heap_alloc_new _ _)
  have hb : Below w7.heap.size w7 u7 := by rw [hu7]; exact bda _ _
  rw [← hu7]
  clear hu7
  have Ku7 := Lib.hid (Kw7.out.trans (hb.mono Kw7.out.size))
  have B0 := Lib.hid (row_on B0.out hb)
  have V3 := Lib.hid (V3.out.below hb)
  have V4 := Lib.hid (V4.out.below hb)
  have V7 := Lib.hid (V7.out.below hb)
  clear hb
  have B0a := row_c B0.out (i := 0) rfl
  have B0b := row_c B0.out (i := 1) rfl
  have B2a := row_c B2.out (i := 0) rfl
  have B2b := row_c B2.out (i := 1) rfl
  go_wp2_with fail
  refine (DE2.out _).mono ?_
  rintro e w8 ⟨A8, c8, rfl, hv, hb⟩
  clear B0a B0b B2a B2b
  have Kw8 := Lib.hid (Ku7.out.trans (hb.mono Ku7.out.size))
  have B0 := Lib.hid (row_on B0.out hb)
  have B2 := Lib.hid (row_on B2.out hb)
  have V3 := Lib.hid (V3.out.below hb)
  have V4 := Lib.hid (V4.out.below hb)
  have V7 := Lib.hid (V7.out.below hb)
  have V8 := Lib.hid hv
  clear hv hb
  have B0a := row_c B0.out (i := 0) rfl
  have B0b := row_c B0.out (i := 1) rfl
  have B2a := row_c B2.out (i := 0) rfl
  have B2b := row_c B2.out (i := 1) rfl
  go_upto_region 9 with (fail)
  clear B0a B0b B2a B2b
  obtain ⟨u8, hu8⟩ : ∃ U : World, U = w8.alloc (.cells #[.int .i64 N2, .slice A8 L2.length c8] 34) := ⟨_, rfl⟩
  have B3 := Lib.hid (show u8.heap[w8.heap.size]? = some (.cells #[.int .i64 N2, .slice A8 L2.length c8] 34) by rw [hu8]; exact heap_alloc_new _ _)
  have hb : Below w8.heap.size w8 u8 := by rw [hu8]; exact bda _ _
  rw [← hu8]
  clear hu8
  have Ku8 := Lib.hid (Kw8.out.trans (hb.mono Kw8.out.size))
  have B0 := Lib.hid (row_on B0.out hb)
  have B2 := Lib.hid (row_on B2.out hb)
  have V3 := Lib.hid (V3.out.below hb)
  have V4 := Lib.hid (V4.out.below hb)
  have V7 := Lib.hid (V7.out.below hb)
  have V8 := Lib.hid (V8.out.below hb)
  clear hb
  have B0a := row_c B0.out (i := 0) rfl
  have B0b := row_c B0.out (i := 1) rfl
  have B2a := row_c B2.out (i := 0) rfl
  have B2b := row_c B2.out (i := 1) rfl
  have B3a := row_c B3.out (i := 0) rfl
  have B3b := row_c B3.out (i := 1) rfl
  go_wp2_with fail
  refine (LI2.out A7 A8 c7 c8 _ V7.out V8.out).mono ?_
  rintro e w9 ⟨rfl, hb⟩
  clear B0a B0b B2a B2b B3a B3b
  have Kw9 := Lib.hid (Ku8.out.trans (hb.mono Ku8.out.size))
  have B0 := Lib.hid (row_on B0.out hb)
  have B2 := Lib.hid (row_on B2.out hb)
  have B3 := Lib.hid (row_on B3.out hb)
  have V3 := Lib.hid (V3.out.below hb)
  have V4 := Lib.hid (V4.out.below hb)
  have V7 := Lib.hid (V7.out.below hb)
  have V8 := Lib.hid (V8.out.below hb)
  clear hb
  have B0a := row_c B0.out (i := 0) rfl
  have B0b := row_c B0.out (i := 1) rfl
  have B2a := row_c B2.out (i := 0) rfl
  have B2b := row_c B2.out (i := 1) rfl
  have B3a := row_c B3.out (i := 0) rfl
  have B3b := row_c B3.out (i := 1) rfl
  go_upto_region 10 with (fail)
  clear B0a B0b B2a B2b B3a B3b
  have KK := Kw9
  refine wp_operands (W := w9) rfl 47 [44, 45, 46, 47, 48, 49, 50, 51, 52, 53, 54, 55, 56, 57, 58, 59, 60, 61, 62, 63, 64, 65, 66, 67, 68, 69, 70, 71, 72, 73, 74, 75, 76, 77, 78, 79, 80, 81, 82, 83, 84, 85, 86, 87, 88, 89, 90] (fun i u x => match i with | 0 => u = .bool true | 1 => u = .bool true | 2 => u = .string t | 3 => u = .string t | 4 => u = .bool true | 5 => u = .bool true | 6 => u = .bool true | 7 => u = .bool true | 8 => u = .bool true | 9 => u = .int .i64 0 | 10 => u = .bool true | 11 => u = .bool true | 12 => u = .bool true | 13 => u = undef | 14 => u = undef | 15 => u = undef | 16 => u = undef | 17 => u = undef | 18 => u = undef | 19 => u = .bool true | 20 => u = .bool true | 21 => u = .bool true | 22 => u = .bool true | 23 => u = .bool true | 24 => u = .bool true | 25 => u = .bool true | 26 => u = .bool true | 27 => u = .int .i64 0 | 28 => u = .bool true | 29 => u = .bool true | 30 => u = .bool true | 31 => u = undef | 32 => u = undef | 33 => u = undef | 34 => u = undef | 35 => u = undef | 36 => u = undef | 37 => u = .bool true | 38 => u = .bool true | 39 => u = .bool true | 40 => u = .agg #[.int .i64 next, .slice A2 zs.length c2] | 41 => u = .bool rb | 42 => u = .agg #[.int .i64 next, .slice A2 zs.length c2] | 43 => ∃ A' c', u = .agg #[.int .i64 next, .slice A' zs.length c'] ∧ Vs x A' c' zs | 44 => u = .bool rb | 45 => u = .bool true | 46 => u = .bool true | _ => True) (fun _ => false)
    (by decide) rfl (by kernel_rfl) (by kernel_rfl) (by decide) (by kernel_rfl) ?_ (fun _ _ _ h => by cases h) ?_ ?_
  · intro i u x x' hi hR hb'
    have hi' : i = 0 ∨ i = 1 ∨ i = 2 ∨ i = 3 ∨ i = 4 ∨ i = 5 ∨ i = 6 ∨ i = 7 ∨ i = 8 ∨ i = 9 ∨ i = 10 ∨ i = 11 ∨ i = 12 ∨ i = 13 ∨ i = 14 ∨ i = 15 ∨ i = 16 ∨ i = 17 ∨ i = 18 ∨ i = 19 ∨ i = 20 ∨ i = 21 ∨ i = 22 ∨ i = 23 ∨ i = 24 ∨ i = 25 ∨ i = 26 ∨ i = 27 ∨ i = 28 ∨ i = 29 ∨ i = 30 ∨ i = 31 ∨ i = 32 ∨ i = 33 ∨ i = 34 ∨ i = 35 ∨ i = 36 ∨ i = 37 ∨ i = 38 ∨ i = 39 ∨ i = 40 ∨ i = 41 ∨ i = 42 ∨ i = 43 ∨ i = 44 ∨ i = 45 ∨ i = 46 := by omega
    rcases hi' with rfl | rfl | rfl | rfl | rfl | rfl | rfl | rfl | rfl | rfl | rfl | rfl | rfl | rfl | rfl | rfl | rfl | rfl | rfl | rfl | rfl | rfl | rfl | rfl | rfl | rfl | rfl | rfl | rfl | rfl | rfl | rfl | rfl | rfl | rfl | rfl | rfl | rfl | rfl | rfl | rfl | rfl | rfl | rfl | rfl | rfl | rfl
    · exact hR
    · exact hR
    · exact hR
    · exact hR
    · exact hR
    · exact hR
    · exact hR
    · exact hR
    · exact hR
    · exact hR
    · exact hR
    · exact hR
    · exact hR
    · exact hR
    · exact hR
    · exact hR
    · exact hR
    · exact hR
    · exact hR
    · exact hR
    · exact hR
    · exact hR
    · exact hR
    · exact hR
    · exact hR
    · exact hR
    · exact hR
    · exact hR
    · exact hR
    · exact hR
    · exact hR
    · exact hR
    · exact hR
    · exact hR
    · exact hR
    · exact hR
    · exact hR
    · exact hR
    · exact hR
    · exact hR
    · exact hR
    · exact hR
    · exact hR
    · obtain ⟨A', c', e, hg⟩ := hR; exact ⟨A', c', e, hg.below hb'⟩
    · exact hR
    · exact hR
    · exact hR
  · intro i av x K hi hF hb hw hK
    have hi' : i = 0 ∨ i = 1 ∨ i = 2 ∨ i = 3 ∨ i = 4 ∨ i = 5 ∨ i = 6 ∨ i = 7 ∨ i = 8 ∨ i = 9 ∨ i = 10 ∨ i = 11 ∨ i = 12 ∨ i = 13 ∨ i = 14 ∨ i = 15 ∨ i = 16 ∨ i = 17 ∨ i = 18 ∨ i = 19 ∨ i = 20 ∨ i = 21 ∨ i = 22 ∨ i = 23 ∨ i = 24 ∨ i = 25 ∨ i = 26 ∨ i = 27 ∨ i = 28 ∨ i = 29 ∨ i = 30 ∨ i = 31 ∨ i = 32 ∨ i = 33 ∨ i = 34 ∨ i = 35 ∨ i = 36 ∨ i = 37 ∨ i = 38 ∨ i = 39 ∨ i = 40 ∨ i = 41 ∨ i = 42 ∨ i = 43 ∨ i = 44 ∨ i = 45 ∨ i = 46 := by omega
    rcases hi' with rfl | rfl | rfl | rfl | rfl | rfl | rfl | rfl | rfl | rfl | rfl | rfl | rfl | rfl | rfl | rfl | rfl | rfl | rfl | rfl | rfl | rfl | rfl | rfl | rfl | rfl | rfl | rfl | rfl | rfl | rfl | rfl | rfl | rfl | rfl | rfl | rfl | rfl | rfl | rfl | rfl | rfl | rfl | rfl | rfl | rfl | rfl
    · simp only [wpOp, List.getElem?_toArray, List.getElem?_cons_zero, Region.wanted, if_true]
      refine Or.inl ?_
      have e0 : av.eval (.tmp 5) = .bool true := hF.2.2 5 (by decide)
      clear hw hF
      simp only [Oper.wp, execOp]
      rw [e0]
      go_simp
      exact hK _ x (by first | rfl | simp) (Below.refl _ _) (fun h => by cases h)
    · simp only [wpOp, List.getElem?_toArray, List.getElem?_cons_succ, List.getElem?_cons_zero, Region.wanted, if_true]
      refine Or.inl ?_
      have e0 : av.tmps.getD 44 undef = .bool true := hw 0 (by kernel_rfl)
      clear hw hF
      simp only [Oper.wp, execOp]
      go_simp
      exact hK _ x (by first | rfl | simp) (Below.refl _ _) (fun h => by cases h)
    · simp only [wpOp, List.getElem?_toArray, List.getElem?_cons_succ, List.getElem?_cons_zero]
      have eg : av.tmps.getD 45 undef = .bool true := hw 1 (by kernel_rfl)
      refine ite_yes (wanted_yes rfl (yielded_of (t := 45) (by kernel_rfl) eg)) ?_
      clear eg
      refine Or.inl ?_
      have e0 : av.eval (.tmp 6) = .string t := hF.2.2 6 (by decide)
      clear hw hF
      simp only [Oper.wp, execOp]
      rw [e0]
      go_simp
      exact hK _ x (by first | rfl | simp) (Below.refl _ _) (fun h => by cases h)
    · simp only [wpOp, List.getElem?_toArray, List.getElem?_cons_succ, List.getElem?_cons_zero]
      have eg : av.tmps.getD 45 undef = .bool true := hw 1 (by kernel_rfl)
      refine ite_yes (wanted_yes rfl (yielded_of (t := 45) (by kernel_rfl) eg)) ?_
      clear eg
      refine Or.inl ?_
      have e0 : av.eval (.tmp 8) = .string t := hF.2.2 8 (by decide)
      clear hw hF
      simp only [Oper.wp, execOp]
      rw [e0]
      go_simp
      exact hK _ x (by first | rfl | simp) (Below.refl _ _) (fun h => by cases h)
    · simp only [wpOp, List.getElem?_toArray, List.getElem?_cons_succ, List.getElem?_cons_zero]
      have eg : av.tmps.getD 45 undef = .bool true := hw 1 (by kernel_rfl)
      refine ite_yes (wanted_yes rfl (yielded_of (t := 45) (by kernel_rfl) eg)) ?_
      clear eg
      refine Or.inl ?_
      have e0 : av.tmps.getD 46 undef = .string t := hw 2 (by kernel_rfl)
      have e1 : av.tmps.getD 47 undef = .string t := hw 3 (by kernel_rfl)
      clear hw hF
      simp only [Oper.wp, execOp]
      go_simp
      exact hK _ x (by first | rfl | simp) (Below.refl _ _) (fun h => by cases h)
    · simp only [wpOp, List.getElem?_toArray, List.getElem?_cons_succ, List.getElem?_cons_zero, Region.wanted, if_true]
      refine Or.inl ?_
      have e0 : av.tmps.getD 45 undef = .bool true := hw 1 (by kernel_rfl)
      have e1 : av.tmps.getD 48 undef = .bool true := hw 4 (by kernel_rfl)
      clear hw hF
      simp only [Oper.wp, execOp]
      go_simp
      exact hK _ x (by first | rfl | simp) (Below.refl _ _) (fun h => by cases h)
    · simp only [wpOp, List.getElem?_toArray, List.getElem?_cons_succ, List.getElem?_cons_zero, Region.wanted, if_true]
      refine Or.inl ?_
      have e0 : av.tmps.getD 49 undef = .bool true := hw 5 (by kernel_rfl)
      clear hw hF
      simp only [Oper.wp, execOp]
      go_simp
      exact hK _ x (by first | rfl | simp) (Below.refl _ _) (fun h => by cases h)
    · simp only [wpOp, List.getElem?_toArray, List.getElem?_cons_succ, List.getElem?_cons_zero]
      have eg : av.tmps.getD 50 undef = .bool true := hw 6 (by kernel_rfl)
      refine ite_yes (wanted_yes rfl (yielded_of (t := 50) (by kernel_rfl) eg)) ?_
      clear eg
      refine Or.inl ?_
      have e0 : av.eval (.tmp 9) = .bool true := hF.2.2 9 (by decide)
      clear hw hF
      simp only [Oper.wp, execOp]
      rw [e0]
      go_simp
      exact hK _ x (by first | rfl | simp) (Below.refl _ _) (fun h => by cases h)
    · simp only [wpOp, List.getElem?_toArray, List.getElem?_cons_succ, List.getElem?_cons_zero]
      have eg : av.tmps.getD 50 undef = .bool true := hw 6 (by kernel_rfl)
      refine ite_yes (wanted_yes rfl (yielded_of (t := 50) (by kernel_rfl) eg)) ?_
      clear eg
      refine Or.inl ?_
      have e0 : av.tmps.getD 51 undef = .bool true := hw 7 (by kernel_rfl)
      clear hw hF
      simp only [Oper.wp, execOp]
      go_simp
      exact hK _ x (by first | rfl | simp) (Below.refl _ _) (fun h => by cases h)
    · simp only [wpOp, List.getElem?_toArray, List.getElem?_cons_succ, List.getElem?_cons_zero]
      have eg : av.tmps.getD 52 undef = .bool true := hw 8 (by kernel_rfl)
      refine ite_yes (wanted_yes rfl (yielded_of (t := 52) (by kernel_rfl) eg)) ?_
      clear eg
      refine Or.inl ?_
      have e0 : av.eval (.tmp 7) = .int .i64 0 := hF.2.2 7 (by decide)
      clear hw hF
      simp only [Oper.wp, execOp]
      rw [e0]
      go_simp
      exact hK _ x (by first | rfl | simp) (Below.refl _ _) (fun h => by cases h)
    · simp only [wpOp, List.getElem?_toArray, List.getElem?_cons_succ, List.getElem?_cons_zero]
      have eg : av.tmps.getD 52 undef = .bool true := hw 8 (by kernel_rfl)
      refine ite_yes (wanted_yes rfl (yielded_of (t := 52) (by kernel_rfl) eg)) ?_
      clear eg
      refine Or.inl ?_
      have e0 : av.tmps.getD 53 undef = .int .i64 0 := hw 9 (by kernel_rfl)
      clear hw hF
      simp only [Oper.wp, execOp]
      go_simp
      exact hK _ x (by first | rfl | simp) (Below.refl _ _) (fun h => by cases h)
    · simp only [wpOp, List.getElem?_toArray, List.getElem?_cons_succ, List.getElem?_cons_zero]
      have eg : av.tmps.getD 50 undef = .bool true := hw 6 (by kernel_rfl)
      refine ite_yes (wanted_yes rfl (yielded_of (t := 50) (by kernel_rfl) eg)) ?_
      clear eg
      refine Or.inl ?_
      have e0 : av.tmps.getD 52 undef = .bool true := hw 8 (by kernel_rfl)
      have e1 : av.tmps.getD 54 undef = .bool true := hw 10 (by kernel_rfl)
      clear hw hF
      simp only [Oper.wp, execOp]
      go_simp
      exact hK _ x (by first | rfl | simp) (Below.refl _ _) (fun h => by cases h)
    · simp only [wpOp, List.getElem?_toArray, List.getElem?_cons_succ, List.getElem?_cons_zero]
      have eg : av.tmps.getD 50 undef = .bool true := hw 6 (by kernel_rfl)
      refine ite_yes (wanted_yes rfl (yielded_of (t := 50) (by kernel_rfl) eg)) ?_
      clear eg
      refine Or.inl ?_
      have e0 : av.tmps.getD 55 undef = .bool true := hw 11 (by kernel_rfl)
      clear hw hF
      simp only [Oper.wp, execOp]
      go_simp
      exact hK _ x (by first | rfl | simp) (Below.refl _ _) (fun h => by cases h)
    · simp only [wpOp, List.getElem?_toArray, List.getElem?_cons_succ, List.getElem?_cons_zero]
      have eg : av.tmps.getD 56 undef = .bool true := hw 12 (by kernel_rfl)
      refine ite_not (wanted_not rfl (yielded_of (t := 56) (by kernel_rfl) eg)) ?_
      exact hK _ x rfl (Below.refl _ _) (fun h => by cases h)
    · simp only [wpOp, List.getElem?_toArray, List.getElem?_cons_succ, List.getElem?_cons_zero]
      have eg : av.tmps.getD 56 undef = .bool true := hw 12 (by kernel_rfl)
      refine ite_not (wanted_not rfl (yielded_of (t := 56) (by kernel_rfl) eg)) ?_
      exact hK _ x rfl (Below.refl _ _) (fun h => by cases h)
    · simp only [wpOp, List.getElem?_toArray, List.getElem?_cons_succ, List.getElem?_cons_zero]
      have eg : av.tmps.getD 56 undef = .bool true := hw 12 (by kernel_rfl)
      refine ite_not (wanted_not rfl (yielded_of (t := 56) (by kernel_rfl) eg)) ?_
      exact hK _ x rfl (Below.refl _ _) (fun h => by cases h)
    · simp only [wpOp, List.getElem?_toArray, List.getElem?_cons_succ, List.getElem?_cons_zero]
      have eg : av.tmps.getD 59 undef = undef := hw 15 (by kernel_rfl)
      refine ite_not (wanted_none rfl (yielded_none (t := 59) (by kernel_rfl) eg)) ?_
      exact hK _ x rfl (Below.refl _ _) (fun h => by cases h)
    · simp only [wpOp, List.getElem?_toArray, List.getElem?_cons_succ, List.getElem?_cons_zero]
      have eg : av.tmps.getD 59 undef = undef := hw 15 (by kernel_rfl)
      refine ite_not (wanted_none rfl (yielded_none (t := 59) (by kernel_rfl) eg)) ?_
      exact hK _ x rfl (Below.refl _ _) (fun h => by cases h)
    · simp only [wpOp, List.getElem?_toArray, List.getElem?_cons_succ, List.getElem?_cons_zero]
      have eg : av.tmps.getD 56 undef = .bool true := hw 12 (by kernel_rfl)
      refine ite_not (wanted_not rfl (yielded_of (t := 56) (by kernel_rfl) eg)) ?_
      exact hK _ x rfl (Below.refl _ _) (fun h => by cases h)
    · simp only [wpOp, List.getElem?_toArray, List.getElem?_cons_succ, List.getElem?_cons_zero]
      have eg : av.tmps.getD 50 undef = .bool true := hw 6 (by kernel_rfl)
      refine ite_yes (wanted_yes rfl (yielded_of (t := 50) (by kernel_rfl) eg)) ?_
      clear eg
      refine Or.inl ?_
      have e0 : av.tmps.getD 56 undef = .bool true := hw 12 (by kernel_rfl)
      have e1 : av.tmps.getD 62 undef = undef := hw 18 (by kernel_rfl)
      clear hw hF
      simp only [Oper.wp, execOp]
      go_simp
      exact hK _ x (by first | rfl | simp) (Below.refl _ _) (fun h => by cases h)
    · simp only [wpOp, List.getElem?_toArray, List.getElem?_cons_succ, List.getElem?_cons_zero, Region.wanted, if_true]
      refine Or.inl ?_
      have e0 : av.tmps.getD 50 undef = .bool true := hw 6 (by kernel_rfl)
      have e1 : av.tmps.getD 63 undef = .bool true := hw 19 (by kernel_rfl)
      clear hw hF
      simp only [Oper.wp, execOp]
      go_simp
      exact hK _ x (by first | rfl | simp) (Below.refl _ _) (fun h => by cases h)
    · simp only [wpOp, List.getElem?_toArray, List.getElem?_cons_succ, List.getElem?_cons_zero, Region.wanted, if_true]
      refine Or.inl ?_
      have e0 : av.tmps.getD 64 undef = .bool true := hw 20 (by kernel_rfl)
      clear hw hF
      simp only [Oper.wp, execOp]
      go_simp
      exact hK _ x (by first | rfl | simp) (Below.refl _ _) (fun h => by cases h)
    · simp only [wpOp, List.getElem?_toArray, List.getElem?_cons_succ, List.getElem?_cons_zero]
      have eg : av.tmps.getD 65 undef = .bool true := hw 21 (by kernel_rfl)
      refine ite_yes (wanted_yes rfl (yielded_of (t := 65) (by kernel_rfl) eg)) ?_
      clear eg
      refine Or.inl ?_
      have e0 : av.eval (.tmp 14) = .bool true := hF.2.2 14 (by decide)
      clear hw hF
      simp only [Oper.wp, execOp]
      rw [e0]
      go_simp
      exact hK _ x (by first | rfl | simp) (Below.refl _ _) (fun h => by cases h)
    · simp only [wpOp, List.getElem?_toArray, List.getElem?_cons_succ, List.getElem?_cons_zero, Region.wanted, if_true]
      refine Or.inl ?_
      have e0 : av.tmps.getD 65 undef = .bool true := hw 21 (by kernel_rfl)
      have e1 : av.tmps.getD 66 undef = .bool true := hw 22 (by kernel_rfl)
      clear hw hF
      simp only [Oper.wp, execOp]
      go_simp
      exact hK _ x (by first | rfl | simp) (Below.refl _ _) (fun h => by cases h)
    · simp only [wpOp, List.getElem?_toArray, List.getElem?_cons_succ, List.getElem?_cons_zero, Region.wanted, if_true]
      refine Or.inl ?_
      have e0 : av.tmps.getD 67 undef = .bool true := hw 23 (by kernel_rfl)
      clear hw hF
      simp only [Oper.wp, execOp]
      go_simp
      exact hK _ x (by first | rfl | simp) (Below.refl _ _) (fun h => by cases h)
    · simp only [wpOp, List.getElem?_toArray, List.getElem?_cons_succ, List.getElem?_cons_zero]
      have eg : av.tmps.getD 68 undef = .bool true := hw 24 (by kernel_rfl)
      refine ite_yes (wanted_yes rfl (yielded_of (t := 68) (by kernel_rfl) eg)) ?_
      clear eg
      refine Or.inl ?_
      have e0 : av.eval (.tmp 13) = .bool true := hF.2.2 13 (by decide)
      clear hw hF
      simp only [Oper.wp, execOp]
      rw [e0]
      go_simp
      exact hK _ x (by first | rfl | simp) (Below.refl _ _) (fun h => by cases h)
    · simp only [wpOp, List.getElem?_toArray, List.getElem?_cons_succ, List.getElem?_cons_zero]
      have eg : av.tmps.getD 68 undef = .bool true := hw 24 (by kernel_rfl)
      refine ite_yes (wanted_yes rfl (yielded_of (t := 68) (by kernel_rfl) eg)) ?_
      clear eg
      refine Or.inl ?_
      have e0 : av.tmps.getD 69 undef = .bool true := hw 25 (by kernel_rfl)
      clear hw hF
      simp only [Oper.wp, execOp]
      go_simp
      exact hK _ x (by first | rfl | simp) (Below.refl _ _) (fun h => by cases h)
    · simp only [wpOp, List.getElem?_toArray, List.getElem?_cons_succ, List.getElem?_cons_zero]
      have eg : av.tmps.getD 70 undef = .bool true := hw 26 (by kernel_rfl)
      refine ite_yes (wanted_yes rfl (yielded_of (t := 70) (by kernel_rfl) eg)) ?_
      clear eg
      refine Or.inl ?_
      have e0 : av.eval (.tmp 11) = .int .i64 0 := hF.2.2 11 (by decide)
      clear hw hF
      simp only [Oper.wp, execOp]
      rw [e0]
      go_simp
      exact hK _ x (by first | rfl | simp) (Below.refl _ _) (fun h => by cases h)
    · simp only [wpOp, List.getElem?_toArray, List.getElem?_cons_succ, List.getElem?_cons_zero]
      have eg : av.tmps.getD 70 undef = .bool true := hw 26 (by kernel_rfl)
      refine ite_yes (wanted_yes rfl (yielded_of (t := 70) (by kernel_rfl) eg)) ?_
      clear eg
      refine Or.inl ?_
      have e0 : av.tmps.getD 71 undef = .int .i64 0 := hw 27 (by kernel_rfl)
      clear hw hF
      simp only [Oper.wp, execOp]
      go_simp
      exact hK _ x (by first | rfl | simp) (Below.refl _ _) (fun h => by cases h)
    · simp only [wpOp, List.getElem?_toArray, List.getElem?_cons_succ, List.getElem?_cons_zero]
      have eg : av.tmps.getD 68 undef = .bool true := hw 24 (by kernel_rfl)
      refine ite_yes (wanted_yes rfl (yielded_of (t := 68) (by kernel_rfl) eg)) ?_
      clear eg
      refine Or.inl ?_
      have e0 : av.tmps.getD 70 undef = .bool true := hw 26 (by kernel_rfl)
      have e1 : av.tmps.getD 72 undef = .bool true := hw 28 (by kernel_rfl)
      clear hw hF
      simp only [Oper.wp, execOp]
      go_simp
      exact hK _ x (by first | rfl | simp) (Below.refl _ _) (fun h => by cases h)
    · simp only [wpOp, List.getElem?_toArray, List.getElem?_cons_succ, List.getElem?_cons_zero]
      have eg : av.tmps.getD 68 undef = .bool true := hw 24 (by kernel_rfl)
      refine ite_yes (wanted_yes rfl (yielded_of (t := 68) (by kernel_rfl) eg)) ?_
      clear eg
      refine Or.inl ?_
      have e0 : av.tmps.getD 73 undef = .bool true := hw 29 (by kernel_rfl)
      clear hw hF
      simp only [Oper.wp, execOp]
      go_simp
      exact hK _ x (by first | rfl | simp) (Below.refl _ _) (fun h => by cases h)
    · simp only [wpOp, List.getElem?_toArray, List.getElem?_cons_succ, List.getElem?_cons_zero]
      have eg : av.tmps.getD 74 undef = .bool true := hw 30 (by kernel_rfl)
      refine ite_not (wanted_not rfl (yielded_of (t := 74) (by kernel_rfl) eg)) ?_
      exact hK _ x rfl (Below.refl _ _) (fun h => by cases h)
    · simp only [wpOp, List.getElem?_toArray, List.getElem?_cons_succ, List.getElem?_cons_zero]
      have eg : av.tmps.getD 74 undef = .bool true := hw 30 (by kernel_rfl)
      refine ite_not (wanted_not rfl (yielded_of (t := 74) (by kernel_rfl) eg)) ?_
      exact hK _ x rfl (Below.refl _ _) (fun h => by cases h)
    · simp only [wpOp, List.getElem?_toArray, List.getElem?_cons_succ, List.getElem?_cons_zero]
      have eg : av.tmps.getD 74 undef = .bool true := hw 30 (by kernel_rfl)
      refine ite_not (wanted_not rfl (yielded_of (t := 74) (by kernel_rfl) eg)) ?_
      exact hK _ x rfl (Below.refl _ _) (fun h => by cases h)
    · simp only [wpOp, List.getElem?_toArray, List.getElem?_cons_succ, List.getElem?_cons_zero]
      have eg : av.tmps.getD 77 undef = undef := hw 33 (by kernel_rfl)
      refine ite_not (wanted_none rfl (yielded_none (t := 77) (by kernel_rfl) eg)) ?_
      exact hK _ x rfl (Below.refl _ _) (fun h => by cases h)
    · simp only [wpOp, List.getElem?_toArray, List.getElem?_cons_succ, List.getElem?_cons_zero]
      have eg : av.tmps.getD 77 undef = undef := hw 33 (by kernel_rfl)
      refine ite_not (wanted_none rfl (yielded_none (t := 77) (by kernel_rfl) eg)) ?_
      exact hK _ x rfl (Below.refl _ _) (fun h => by cases h)
    · simp only [wpOp, List.getElem?_toArray, List.getElem?_cons_succ, List.getElem?_cons_zero]
      have eg : av.tmps.getD 74 undef = .bool true := hw 30 (by kernel_rfl)
      refine ite_not (wanted_not rfl (yielded_of (t := 74) (by kernel_rfl) eg)) ?_
      exact hK _ x rfl (Below.refl _ _) (fun h => by cases h)
    · simp only [wpOp, List.getElem?_toArray, List.getElem?_cons_succ, List.getElem?_cons_zero]
      have eg : av.tmps.getD 68 undef = .bool true := hw 24 (by kernel_rfl)
      refine ite_yes (wanted_yes rfl (yielded_of (t := 68) (by kernel_rfl) eg)) ?_
      clear eg
      refine Or.inl ?_
      have e0 : av.tmps.getD 74 undef = .bool true := hw 30 (by kernel_rfl)
      have e1 : av.tmps.getD 80 undef = undef := hw 36 (by kernel_rfl)
      clear hw hF
      simp only [Oper.wp, execOp]
      go_simp
      exact hK _ x (by first | rfl | simp) (Below.refl _ _) (fun h => by cases h)
    · simp only [wpOp, List.getElem?_toArray, List.getElem?_cons_succ, List.getElem?_cons_zero, Region.wanted, if_true]
      refine Or.inl ?_
      have e0 : av.tmps.getD 68 undef = .bool true := hw 24 (by kernel_rfl)
      have e1 : av.tmps.getD 81 undef = .bool true := hw 37 (by kernel_rfl)
      clear hw hF
      simp only [Oper.wp, execOp]
      go_simp
      exact hK _ x (by first | rfl | simp) (Below.refl _ _) (fun h => by cases h)
    · simp only [wpOp, List.getElem?_toArray, List.getElem?_cons_succ, List.getElem?_cons_zero, Region.wanted, if_true]
      refine Or.inl ?_
      have e0 : av.tmps.getD 82 undef = .bool true := hw 38 (by kernel_rfl)
      clear hw hF
      simp only [Oper.wp, execOp]
      go_simp
      exact hK _ x (by first | rfl | simp) (Below.refl _ _) (fun h => by cases h)
    · simp only [wpOp, List.getElem?_toArray, List.getElem?_cons_succ, List.getElem?_cons_zero]
      have eg : av.tmps.getD 83 undef = .bool true := hw 39 (by kernel_rfl)
      refine ite_yes (wanted_yes rfl (yielded_of (t := 83) (by kernel_rfl) eg)) ?_
      clear eg
      refine Or.inl ?_
      have e0 : av.eval (.tmp 2) = .pointer (some ⟨w.heap.size, 0, none⟩) := hF.2.2 2 (by decide)
      have f0 := row_c (row_on B0.out hb) (i := 0) rfl
      have f1 := row_c (row_on B0.out hb) (i := 1) rfl
      clear hw hF
      simp only [Oper.wp, execOp]
      rw [e0]
      go_simp
      exact hK _ x (by first | rfl | simp) (Below.refl _ _) (fun h => by cases h)
    · simp only [wpOp, List.getElem?_toArray, List.getElem?_cons_succ, List.getElem?_cons_zero]
      have eg : av.tmps.getD 83 undef = .bool true := hw 39 (by kernel_rfl)
      refine ite_yes (wanted_yes rfl (yielded_of (t := 83) (by kernel_rfl) eg)) ?_
      clear eg
      refine Or.inl ?_
      have e0 : av.tmps.getD 84 undef = .agg #[.int .i64 next, .slice A2 zs.length c2] := hw 40 (by kernel_rfl)
      clear hw hF
      simp only [Oper.wp, execOp]
      go_simp
      refine (RG.out A2 c2 x (V3.out.below hb)).mono ?_
      rintro e y ⟨rfl, hbb⟩
      exact hK _ y rfl hbb (fun h => by cases h)
    · simp only [wpOp, List.getElem?_toArray, List.getElem?_cons_succ, List.getElem?_cons_zero]
      have eg : av.tmps.getD 83 undef = .bool true := hw 39 (by kernel_rfl)
      refine ite_yes (wanted_yes rfl (yielded_of (t := 83) (by kernel_rfl) eg)) ?_
      clear eg
      refine Or.inl ?_
      have e0 : av.eval (.tmp 2) = .pointer (some ⟨w.heap.size, 0, none⟩) := hF.2.2 2 (by decide)
      have f0 := row_c (row_on B0.out hb) (i := 0) rfl
      have f1 := row_c (row_on B0.out hb) (i := 1) rfl
      clear hw hF
      simp only [Oper.wp, execOp]
      rw [e0]
      go_simp
      exact hK _ x (by first | rfl | simp) (Below.refl _ _) (fun h => by cases h)
    · simp only [wpOp, List.getElem?_toArray, List.getElem?_cons_succ, List.getElem?_cons_zero]
      have eg : av.tmps.getD 83 undef = .bool true := hw 39 (by kernel_rfl)
      refine ite_yes (wanted_yes rfl (yielded_of (t := 83) (by kernel_rfl) eg)) ?_
      clear eg
      refine Or.inl ?_
      have e0 : av.tmps.getD 86 undef = .agg #[.int .i64 next, .slice A2 zs.length c2] := hw 42 (by kernel_rfl)
      clear hw hF
      simp only [Oper.wp, execOp]
      go_simp
      refine (RE.out A2 c2 x (V3.out.below hb)).mono ?_
      rintro e y ⟨A4, c4, rfl, hv, hbb, _⟩
      exact hK _ y ⟨A4, c4, rfl, hv⟩ hbb (fun h => by cases h)
    · simp only [wpOp, List.getElem?_toArray, List.getElem?_cons_succ, List.getElem?_cons_zero]
      have eg : av.tmps.getD 83 undef = .bool true := hw 39 (by kernel_rfl)
      refine ite_yes (wanted_yes rfl (yielded_of (t := 83) (by kernel_rfl) eg)) ?_
      clear eg
      refine Or.inl ?_
      obtain ⟨Ar, cr, e0, hv⟩ := hw 43 (by kernel_rfl)
      replace e0 : av.tmps.getD 87 undef = .agg #[.int .i64 next, .slice Ar zs.length cr] := e0
      clear hw hF
      simp only [Oper.wp, execOp]
      go_simp
      refine (RG2.out Ar cr x hv).mono ?_
      rintro e y ⟨rfl, hbb⟩
      exact hK _ y rfl hbb (fun h => by cases h)
    · simp only [wpOp, List.getElem?_toArray, List.getElem?_cons_succ, List.getElem?_cons_zero]
      have eg : av.tmps.getD 83 undef = .bool true := hw 39 (by kernel_rfl)
      refine ite_yes (wanted_yes rfl (yielded_of (t := 83) (by kernel_rfl) eg)) ?_
      clear eg
      refine Or.inl ?_
      have e0 : av.tmps.getD 85 undef = .bool rb := hw 41 (by kernel_rfl)
      have e1 : av.tmps.getD 88 undef = .bool rb := hw 44 (by kernel_rfl)
      clear hw hF
      simp only [Oper.wp, execOp]
      go_simp
      exact hK _ x (by first | rfl | simp) (Below.refl _ _) (fun h => by cases h)
    · simp only [wpOp, List.getElem?_toArray, List.getElem?_cons_succ, List.getElem?_cons_zero, Region.wanted, if_true]
      refine Or.inl ?_
      have e0 : av.tmps.getD 83 undef = .bool true := hw 39 (by kernel_rfl)
      have e1 : av.tmps.getD 89 undef = .bool true := hw 45 (by kernel_rfl)
      clear hw hF
      simp only [Oper.wp, execOp]
      go_simp
      exact hK _ x (by first | rfl | simp) (Below.refl _ _) (fun h => by cases h)
  · intro av x hF hb hR _
    obtain ⟨Ar, cr, e43, _⟩ := hR 43 (by decide)
    replace e43 : av.tmps.getD 87 undef = .agg #[.int .i64 next, .slice Ar zs.length cr] := e43
    have e0 : av.tmps.getD 44 undef = .bool true := hR 0 (by decide)
    have e1 : av.tmps.getD 45 undef = .bool true := hR 1 (by decide)
    have e2 : av.tmps.getD 46 undef = .string t := hR 2 (by decide)
    have e3 : av.tmps.getD 47 undef = .string t := hR 3 (by decide)
    have e4 : av.tmps.getD 48 undef = .bool true := hR 4 (by decide)
    have e5 : av.tmps.getD 49 undef = .bool true := hR 5 (by decide)
    have e6 : av.tmps.getD 50 undef = .bool true := hR 6 (by decide)
    have e7 : av.tmps.getD 51 undef = .bool true := hR 7 (by decide)
    have e8 : av.tmps.getD 52 undef = .bool true := hR 8 (by decide)
    have e9 : av.tmps.getD 53 undef = .int .i64 0 := hR 9 (by decide)
    have e10 : av.tmps.getD 54 undef = .bool true := hR 10 (by decide)
    have e11 : av.tmps.getD 55 undef = .bool true := hR 11 (by decide)
    have e12 : av.tmps.getD 56 undef = .bool true := hR 12 (by decide)
    have e13 : av.tmps.getD 57 undef = undef := hR 13 (by decide)
    have e14 : av.tmps.getD 58 undef = undef := hR 14 (by decide)
    have e15 : av.tmps.getD 59 undef = undef := hR 15 (by decide)
    have e16 : av.tmps.getD 60 undef = undef := hR 16 (by decide)
    have e17 : av.tmps.getD 61 undef = undef := hR 17 (by decide)
    have e18 : av.tmps.getD 62 undef = undef := hR 18 (by decide)
    have e19 : av.tmps.getD 63 undef = .bool true := hR 19 (by decide)
    have e20 : av.tmps.getD 64 undef = .bool true := hR 20 (by decide)
    have e21 : av.tmps.getD 65 undef = .bool true := hR 21 (by decide)
    have e22 : av.tmps.getD 66 undef = .bool true := hR 22 (by decide)
    have e23 : av.tmps.getD 67 undef = .bool true := hR 23 (by decide)
    have e24 : av.tmps.getD 68 undef = .bool true := hR 24 (by decide)
    have e25 : av.tmps.getD 69 undef = .bool true := hR 25 (by decide)
    have e26 : av.tmps.getD 70 undef = .bool true := hR 26 (by decide)
    have e27 : av.tmps.getD 71 undef = .int .i64 0 := hR 27 (by decide)
    have e28 : av.tmps.getD 72 undef = .bool true := hR 28 (by decide)
    have e29 : av.tmps.getD 73 undef = .bool true := hR 29 (by decide)
    have e30 : av.tmps.getD 74 undef = .bool true := hR 30 (by decide)
    have e31 : av.tmps.getD 75 undef = undef := hR 31 (by decide)
    have e32 : av.tmps.getD 76 undef = undef := hR 32 (by decide)
    have e33 : av.tmps.getD 77 undef = undef := hR 33 (by decide)
    have e34 : av.tmps.getD 78 undef = undef := hR 34 (by decide)
    have e35 : av.tmps.getD 79 undef = undef := hR 35 (by decide)
    have e36 : av.tmps.getD 80 undef = undef := hR 36 (by decide)
    have e37 : av.tmps.getD 81 undef = .bool true := hR 37 (by decide)
    have e38 : av.tmps.getD 82 undef = .bool true := hR 38 (by decide)
    have e39 : av.tmps.getD 83 undef = .bool true := hR 39 (by decide)
    have e40 : av.tmps.getD 84 undef = .agg #[.int .i64 next, .slice A2 zs.length c2] := hR 40 (by decide)
    have e41 : av.tmps.getD 85 undef = .bool rb := hR 41 (by decide)
    have e42 : av.tmps.getD 86 undef = .agg #[.int .i64 next, .slice A2 zs.length c2] := hR 42 (by decide)
    have e44 : av.tmps.getD 88 undef = .bool rb := hR 44 (by decide)
    have e45 : av.tmps.getD 89 undef = .bool true := hR 45 (by decide)
    have e46 : av.tmps.getD 90 undef = .bool true := hR 46 (by decide)
    rw [hF.fold (by kernel_rfl)]
    simp only [List.foldl_cons, List.foldl_nil, e0, e1, e2, e3, e4, e5, e6, e7, e8, e9, e10, e11, e12, e13, e14, e15, e16, e17, e18, e19, e20, e21, e22, e23, e24, e25, e26, e27, e28, e29, e30, e31, e32, e33, e34, e35, e36, e37, e38, e39, e40, e41, e42, e43, e44, e45, e46]
    simp only [Act.put, List.setIfInBounds_toArray, List.set_cons_zero, List.set_cons_succ]
    change wpOps _ _ _ [47] _ _
    simp only [wpOps_cons]
    clear e0 e1 e2 e3 e4 e5 e6 e7 e8 e9 e10 e11 e12 e13 e14 e15 e16 e17 e18 e19 e20 e21 e22 e23 e24 e25 e26 e27 e28 e29 e30 e31 e32 e33 e34 e35 e36 e37 e38 e39 e40 e41 e42 e43 e44 e45 e46 hR hF
    have HE := Lib.hid hb
    clear hb
    simp only [wpOp, List.getElem?_toArray, List.getElem?_cons_succ, List.getElem?_cons_zero, Region.wanted, if_true]
    refine Or.inl ?_
    simp only [Oper.wp, execOp]
    go_simp
    try simp only [wpOps]
    go_wp2
    go_ret
    exact ⟨rfl, KK.out.trans (HE.out.mono KK.out.size)⟩
set_option maxHeartbeats 16000000 in
set_option maxRecDepth 100000 in
theorem bytes_yn (next : Int) (A : Option Addr) (c : Nat) (vs : List (Int × Int)) (S : List UInt8) (w : World) (h : Vs w A c vs) (zs : List (Int × Int)) (hz : vs.take 15 = zs) (t : ByteArray) (N2 : Int) (L2 : List (Int × Int)) (l2 : L2.length ≤ 100000)
    (hE1 : ∀ A c V, Vs V A c zs → Calls Try.prog 9 #[.agg #[.int .i64 next, .slice A zs.length c]] V fun e w' => e = .returned (.tuple #[.string t, .int .i64 0]) ∧ Below V.heap.size V w')
    (hE2 : ∀ A c V, Vs V A c zs → Calls Try.prog 10 #[.agg #[.int .i64 next, .slice A zs.length c]] V fun e w' => e = .returned (.tuple #[.string t, .bool true]) ∧ Below V.heap.size V w')
    (hD1 : ∀ V, Calls Try.prog 12 #[.string ⟨S.toArray⟩] V fun e w' => ∃ A' c', e = .returned (.tuple #[.agg #[.int .i64 N2, .slice A' L2.length c'], .int .i64 2]) ∧ Vs w' A' c' L2 ∧ Below V.heap.size V w')
    (hD2 : ∀ V, Calls Try.prog 13 #[.string ⟨S.toArray⟩] V fun e w' => ∃ A' c', e = .returned (.tuple #[.agg #[.int .i64 N2, .slice A' L2.length c'], .bool false]) ∧ Vs w' A' c' L2 ∧ Below V.heap.size V w') :
    Calls Try.prog 3 #[.agg #[.int .i64 next, .slice A vs.length c], .string ⟨S.toArray⟩] w fun e w' => e = .returned (.bool true) ∧ Below w.heap.size w w' := by
  have H := Lib.hid h
  have FW := Lib.hid (fun V (hV : Vs V A c vs) => few_any next A c vs V hV)
  have lz : zs.length ≤ 15 := by rw [← hz, List.length_take]; omega
  rw [hz] at FW
  have EN1 := Lib.hid hE1
  have EN2 := Lib.hid hE2
  have DE1 := Lib.hid hD1
  have DE2 := Lib.hid hD2
  obtain ⟨rb, hrb⟩ : ∃ b, rightB next zs = b := ⟨_, rfl⟩
  have RG := Lib.hid (fun A c V (hV : Vs V A c zs) => right_any next A c zs V hV (by omega))
  have RG2 := Lib.hid (fun A c V (hV : Vs V A c zs) => rright_any next A c zs V hV (by omega))
  rw [hrb] at RG RG2
  have RE := Lib.hid (fun A c V (hV : Vs V A c zs) => ref_any next A c zs V hV (by omega))
  have LI2 := Lib.hid (fun A B c d V (h1 : Vs V A c L2) (h2 : Vs V B d L2) => lists_any N2 A B c d L2 V h1 h2 l2)
  clear h hz hE1 hE2 hD1 hD2 l2 hrb
  go_enter Try.func3, Try.ntmps3
  go_wp2_with fail
  refine (examples_any _).mono ?_
  rintro e w1 ⟨rfl, hb⟩
  have K1 := Lib.hid (bon (bda w (.cells #[.int .i64 next, .slice A vs.length c] 24)) hb)
  have R1 := Lib.hid (row_on (heap_alloc_new w (.cells #[.int .i64 next, .slice A vs.length c] 24)) hb)
  clear hb
  have f0 := row_c R1.out (i := 0) rfl
  have f1 := row_c R1.out (i := 1) rfl
  go_wp2_with fail
  refine (FW.out _ (H.out.below K1.out)).mono ?_
  rintro e w2 ⟨A2, c2, rfl, hv, hb, hf⟩
  have r2 := row_on R1.out hb
  have q0 := row_c r2 (i := 0) rfl
  have q1 := row_c r2 (i := 1) rfl
  have z0 := frozen_of_row _ _ 0 _ _ r2
  have z1 := frozen_of_row _ _ 1 _ _ r2
  obtain ⟨w3, hw3⟩ : ∃ W : World, W = (w2.setCell ⟨w.heap.size, 0, none⟩ (.int .i64 next)).setCell ⟨w.heap.size, 1, none⟩ (.slice A2 zs.length c2) := ⟨_, rfl⟩
  have HW := Lib.hid hw3
  have s1 : w.heap.size < w1.heap.size := heap_lt R1.out
  have V3 := Lib.hid (show Vs w3 A2 c2 zs by rw [hw3]; exact (hv.set hf s1 _ _).set hf s1 _ _)
  have K3 := Lib.hid (show Below w.heap.size w w3 by rw [hw3]; exact ((bon K1.out hb).setCell (Nat.le_refl _) _).setCell (Nat.le_refl _) _)
  have R3 := Lib.hid (show w3.heap[w.heap.size]? = some (.cells #[.int .i64 next, .slice A2 zs.length c2] 24) by
    rw [hw3]
    have e1 := heap_setCell_same w2 w.heap.size 0 _ _ (.int .i64 next) r2
    exact heap_setCell_same _ w.heap.size 1 _ _ (.slice A2 zs.length c2) e1)
  clear hb hv hf f0 f1 r2 hw3
  go_upto_region 5 with (fail)
  rw [← HW.out]
  clear q0 q1 z0 z1 HW
  have f0 : w3.cell? ⟨w.heap.size, 0, none⟩ = some (.int .i64 next) := row_c R3.out (i := 0) rfl
  have f1 : w3.cell? ⟨w.heap.size, 1, none⟩ = some (.slice A2 zs.length c2) := row_c R3.out (i := 1) rfl
  have B0 := R3
  clear f0 f1
  have B0a := row_c B0.out (i := 0) rfl
  have B0b := row_c B0.out (i := 1) rfl
  go_wp2_with fail
  refine (EN1.out A2 c2 _ V3.out).mono ?_
  rintro e w4 ⟨rfl, hb⟩
  clear B0a B0b
  have Kw4 := Lib.hid (K3.out.trans (hb.mono K3.out.size))
  have B0 := Lib.hid (row_on B0.out hb)
  have V3 := Lib.hid (V3.out.below hb)
  clear hb
  have B0a := row_c B0.out (i := 0) rfl
  have B0b := row_c B0.out (i := 1) rfl
  go_wp2_with fail
  refine (RE.out A2 c2 _ V3.out).mono ?_
  rintro e w5 ⟨A4, c4, rfl, hv, hb, _⟩
  clear B0a B0b
  have Kw5 := Lib.hid (Kw4.out.trans (hb.mono Kw4.out.size))
  have B0 := Lib.hid (row_on B0.out hb)
  have V3 := Lib.hid (V3.out.below hb)
  have V4 := Lib.hid hv
  clear hv hb
  have B0a := row_c B0.out (i := 0) rfl
  have B0b := row_c B0.out (i := 1) rfl
  go_wp2_with fail
  refine (EN2.out A4 c4 _ V4.out).mono ?_
  rintro e w6 ⟨rfl, hb⟩
  clear B0a B0b
  have Kw6 := Lib.hid (Kw5.out.trans (hb.mono Kw5.out.size))
  have B0 := Lib.hid (row_on B0.out hb)
  have V3 := Lib.hid (V3.out.below hb)
  have V4 := Lib.hid (V4.out.below hb)
  clear hb
  have B0a := row_c B0.out (i := 0) rfl
  have B0b := row_c B0.out (i := 1) rfl
  go_wp2_with fail
  refine (DE1.out _).mono ?_
  rintro e w7 ⟨A7, c7, rfl, hv, hb⟩
  clear B0a B0b
  have Kw7 := Lib.hid (Kw6.out.trans (hb.mono Kw6.out.size))
  have B0 := Lib.hid (row_on B0.out hb)
  have V3 := Lib.hid (V3.out.below hb)
  have V4 := Lib.hid (V4.out.below hb)
  have V7 := Lib.hid hv
  clear hv hb
  have B0a := row_c B0.out (i := 0) rfl
  have B0b := row_c B0.out (i := 1) rfl
  go_upto_region 8 with (fail)
  clear B0a B0b
  obtain ⟨u7, hu7⟩ : ∃ U : World, U = w7.alloc (.cells #[.int .i64 N2, .slice A7 L2.length c7] 24) := ⟨_, rfl⟩
  have B2 := Lib.hid (show u7.heap[w7.heap.size]? = some (.cells #[.int .i64 N2, .slice A7 L2.length c7] 24) by rw [hu7]; exact heap_alloc_new _ _)
  have hb : Below w7.heap.size w7 u7 := by rw [hu7]; exact bda _ _
  rw [← hu7]
  clear hu7
  have Ku7 := Lib.hid (Kw7.out.trans (hb.mono Kw7.out.size))
  have B0 := Lib.hid (row_on B0.out hb)
  have V3 := Lib.hid (V3.out.below hb)
  have V4 := Lib.hid (V4.out.below hb)
  have V7 := Lib.hid (V7.out.below hb)
  clear hb
  have B0a := row_c B0.out (i := 0) rfl
  have B0b := row_c B0.out (i := 1) rfl
  have B2a := row_c B2.out (i := 0) rfl
  have B2b := row_c B2.out (i := 1) rfl
  go_wp2_with fail
  refine (DE2.out _).mono ?_
  rintro e w8 ⟨A8, c8, rfl, hv, hb⟩
  clear B0a B0b B2a B2b
  have Kw8 := Lib.hid (Ku7.out.trans (hb.mono Ku7.out.size))
  have B0 := Lib.hid (row_on B0.out hb)
  have B2 := Lib.hid (row_on B2.out hb)
  have V3 := Lib.hid (V3.out.below hb)
  have V4 := Lib.hid (V4.out.below hb)
  have V7 := Lib.hid (V7.out.below hb)
  have V8 := Lib.hid hv
  clear hv hb
  have B0a := row_c B0.out (i := 0) rfl
  have B0b := row_c B0.out (i := 1) rfl
  have B2a := row_c B2.out (i := 0) rfl
  have B2b := row_c B2.out (i := 1) rfl
  go_upto_region 9 with (fail)
  clear B0a B0b B2a B2b
  obtain ⟨u8, hu8⟩ : ∃ U : World, U = w8.alloc (.cells #[.int .i64 N2, .slice A8 L2.length c8] 34) := ⟨_, rfl⟩
  have B3 := Lib.hid (show u8.heap[w8.heap.size]? = some (.cells #[.int .i64 N2, .slice A8 L2.length c8] 34) by rw [hu8]; exact heap_alloc_new _ _)
  have hb : Below w8.heap.size w8 u8 := by rw [hu8]; exact bda _ _
  rw [← hu8]
  clear hu8
  have Ku8 := Lib.hid (Kw8.out.trans (hb.mono Kw8.out.size))
  have B0 := Lib.hid (row_on B0.out hb)
  have B2 := Lib.hid (row_on B2.out hb)
  have V3 := Lib.hid (V3.out.below hb)
  have V4 := Lib.hid (V4.out.below hb)
  have V7 := Lib.hid (V7.out.below hb)
  have V8 := Lib.hid (V8.out.below hb)
  clear hb
  have B0a := row_c B0.out (i := 0) rfl
  have B0b := row_c B0.out (i := 1) rfl
  have B2a := row_c B2.out (i := 0) rfl
  have B2b := row_c B2.out (i := 1) rfl
  have B3a := row_c B3.out (i := 0) rfl
  have B3b := row_c B3.out (i := 1) rfl
  go_wp2_with fail
  refine (LI2.out A7 A8 c7 c8 _ V7.out V8.out).mono ?_
  rintro e w9 ⟨rfl, hb⟩
  clear B0a B0b B2a B2b B3a B3b
  have Kw9 := Lib.hid (Ku8.out.trans (hb.mono Ku8.out.size))
  have B0 := Lib.hid (row_on B0.out hb)
  have B2 := Lib.hid (row_on B2.out hb)
  have B3 := Lib.hid (row_on B3.out hb)
  have V3 := Lib.hid (V3.out.below hb)
  have V4 := Lib.hid (V4.out.below hb)
  have V7 := Lib.hid (V7.out.below hb)
  have V8 := Lib.hid (V8.out.below hb)
  clear hb
  have B0a := row_c B0.out (i := 0) rfl
  have B0b := row_c B0.out (i := 1) rfl
  have B2a := row_c B2.out (i := 0) rfl
  have B2b := row_c B2.out (i := 1) rfl
  have B3a := row_c B3.out (i := 0) rfl
  have B3b := row_c B3.out (i := 1) rfl
  go_upto_region 10 with (fail)
  clear B0a B0b B2a B2b B3a B3b
  have KK := Kw9
  refine wp_operands (W := w9) rfl 47 [44, 45, 46, 47, 48, 49, 50, 51, 52, 53, 54, 55, 56, 57, 58, 59, 60, 61, 62, 63, 64, 65, 66, 67, 68, 69, 70, 71, 72, 73, 74, 75, 76, 77, 78, 79, 80, 81, 82, 83, 84, 85, 86, 87, 88, 89, 90] (fun i u x => match i with | 0 => u = .bool true | 1 => u = .bool true | 2 => u = .string t | 3 => u = .string t | 4 => u = .bool true | 5 => u = .bool true | 6 => u = .bool true | 7 => u = .bool true | 8 => u = .bool true | 9 => u = .int .i64 0 | 10 => u = .bool true | 11 => u = .bool true | 12 => u = .bool true | 13 => u = undef | 14 => u = undef | 15 => u = undef | 16 => u = undef | 17 => u = undef | 18 => u = undef | 19 => u = .bool true | 20 => u = .bool true | 21 => u = .bool true | 22 => u = .bool true | 23 => u = .bool true | 24 => u = .bool true | 25 => u = .bool false | 26 => u = .bool false | 27 => u = undef | 28 => u = undef | 29 => u = .bool false | 30 => u = .bool false | 31 => u = .bool false | 32 => u = .bool true | 33 => u = .bool true | 34 => u = .int .i64 2 | 35 => u = .bool true | 36 => u = .bool true | 37 => u = .bool true | 38 => u = .bool true | 39 => u = .bool true | 40 => u = .agg #[.int .i64 next, .slice A2 zs.length c2] | 41 => u = .bool rb | 42 => u = .agg #[.int .i64 next, .slice A2 zs.length c2] | 43 => ∃ A' c', u = .agg #[.int .i64 next, .slice A' zs.length c'] ∧ Vs x A' c' zs | 44 => u = .bool rb | 45 => u = .bool true | 46 => u = .bool true | _ => True) (fun _ => false)
    (by decide) rfl (by kernel_rfl) (by kernel_rfl) (by decide) (by kernel_rfl) ?_ (fun _ _ _ h => by cases h) ?_ ?_
  · intro i u x x' hi hR hb'
    have hi' : i = 0 ∨ i = 1 ∨ i = 2 ∨ i = 3 ∨ i = 4 ∨ i = 5 ∨ i = 6 ∨ i = 7 ∨ i = 8 ∨ i = 9 ∨ i = 10 ∨ i = 11 ∨ i = 12 ∨ i = 13 ∨ i = 14 ∨ i = 15 ∨ i = 16 ∨ i = 17 ∨ i = 18 ∨ i = 19 ∨ i = 20 ∨ i = 21 ∨ i = 22 ∨ i = 23 ∨ i = 24 ∨ i = 25 ∨ i = 26 ∨ i = 27 ∨ i = 28 ∨ i = 29 ∨ i = 30 ∨ i = 31 ∨ i = 32 ∨ i = 33 ∨ i = 34 ∨ i = 35 ∨ i = 36 ∨ i = 37 ∨ i = 38 ∨ i = 39 ∨ i = 40 ∨ i = 41 ∨ i = 42 ∨ i = 43 ∨ i = 44 ∨ i = 45 ∨ i = 46 := by omega
    rcases hi' with rfl | rfl | rfl | rfl | rfl | rfl | rfl | rfl | rfl | rfl | rfl | rfl | rfl | rfl | rfl | rfl | rfl | rfl | rfl | rfl | rfl | rfl | rfl | rfl | rfl | rfl | rfl | rfl | rfl | rfl | rfl | rfl | rfl | rfl | rfl | rfl | rfl | rfl | rfl | rfl | rfl | rfl | rfl | rfl | rfl | rfl | rfl
    · exact hR
    · exact hR
    · exact hR
    · exact hR
    · exact hR
    · exact hR
    · exact hR
    · exact hR
    · exact hR
    · exact hR
    · exact hR
    · exact hR
    · exact hR
    · exact hR
    · exact hR
    · exact hR
    · exact hR
    · exact hR
    · exact hR
    · exact hR
    · exact hR
    · exact hR
    · exact hR
    · exact hR
    · exact hR
    · exact hR
    · exact hR
    · exact hR
    · exact hR
    · exact hR
    · exact hR
    · exact hR
    · exact hR
    · exact hR
    · exact hR
    · exact hR
    · exact hR
    · exact hR
    · exact hR
    · exact hR
    · exact hR
    · exact hR
    · exact hR
    · obtain ⟨A', c', e, hg⟩ := hR; exact ⟨A', c', e, hg.below hb'⟩
    · exact hR
    · exact hR
    · exact hR
  · intro i av x K hi hF hb hw hK
    have hi' : i = 0 ∨ i = 1 ∨ i = 2 ∨ i = 3 ∨ i = 4 ∨ i = 5 ∨ i = 6 ∨ i = 7 ∨ i = 8 ∨ i = 9 ∨ i = 10 ∨ i = 11 ∨ i = 12 ∨ i = 13 ∨ i = 14 ∨ i = 15 ∨ i = 16 ∨ i = 17 ∨ i = 18 ∨ i = 19 ∨ i = 20 ∨ i = 21 ∨ i = 22 ∨ i = 23 ∨ i = 24 ∨ i = 25 ∨ i = 26 ∨ i = 27 ∨ i = 28 ∨ i = 29 ∨ i = 30 ∨ i = 31 ∨ i = 32 ∨ i = 33 ∨ i = 34 ∨ i = 35 ∨ i = 36 ∨ i = 37 ∨ i = 38 ∨ i = 39 ∨ i = 40 ∨ i = 41 ∨ i = 42 ∨ i = 43 ∨ i = 44 ∨ i = 45 ∨ i = 46 := by omega
    rcases hi' with rfl | rfl | rfl | rfl | rfl | rfl | rfl | rfl | rfl | rfl | rfl | rfl | rfl | rfl | rfl | rfl | rfl | rfl | rfl | rfl | rfl | rfl | rfl | rfl | rfl | rfl | rfl | rfl | rfl | rfl | rfl | rfl | rfl | rfl | rfl | rfl | rfl | rfl | rfl | rfl | rfl | rfl | rfl | rfl | rfl | rfl | rfl
    · simp only [wpOp, List.getElem?_toArray, List.getElem?_cons_zero, Region.wanted, if_true]
      refine Or.inl ?_
      have e0 : av.eval (.tmp 5) = .bool true := hF.2.2 5 (by decide)
      clear hw hF
      simp only [Oper.wp, execOp]
      rw [e0]
      go_simp
      exact hK _ x (by first | rfl | simp) (Below.refl _ _) (fun h => by cases h)
    · simp only [wpOp, List.getElem?_toArray, List.getElem?_cons_succ, List.getElem?_cons_zero, Region.wanted, if_true]
      refine Or.inl ?_
      have e0 : av.tmps.getD 44 undef = .bool true := hw 0 (by kernel_rfl)
      clear hw hF
      simp only [Oper.wp, execOp]
      go_simp
      exact hK _ x (by first | rfl | simp) (Below.refl _ _) (fun h => by cases h)
    · simp only [wpOp, List.getElem?_toArray, List.getElem?_cons_succ, List.getElem?_cons_zero]
      have eg : av.tmps.getD 45 undef = .bool true := hw 1 (by kernel_rfl)
      refine ite_yes (wanted_yes rfl (yielded_of (t := 45) (by kernel_rfl) eg)) ?_
      clear eg
      refine Or.inl ?_
      have e0 : av.eval (.tmp 6) = .string t := hF.2.2 6 (by decide)
      clear hw hF
      simp only [Oper.wp, execOp]
      rw [e0]
      go_simp
      exact hK _ x (by first | rfl | simp) (Below.refl _ _) (fun h => by cases h)
    · simp only [wpOp, List.getElem?_toArray, List.getElem?_cons_succ, List.getElem?_cons_zero]
      have eg : av.tmps.getD 45 undef = .bool true := hw 1 (by kernel_rfl)
      refine ite_yes (wanted_yes rfl (yielded_of (t := 45) (by kernel_rfl) eg)) ?_
      clear eg
      refine Or.inl ?_
      have e0 : av.eval (.tmp 8) = .string t := hF.2.2 8 (by decide)
      clear hw hF
      simp only [Oper.wp, execOp]
      rw [e0]
      go_simp
      exact hK _ x (by first | rfl | simp) (Below.refl _ _) (fun h => by cases h)
    · simp only [wpOp, List.getElem?_toArray, List.getElem?_cons_succ, List.getElem?_cons_zero]
      have eg : av.tmps.getD 45 undef = .bool true := hw 1 (by kernel_rfl)
      refine ite_yes (wanted_yes rfl (yielded_of (t := 45) (by kernel_rfl) eg)) ?_
      clear eg
      refine Or.inl ?_
      have e0 : av.tmps.getD 46 undef = .string t := hw 2 (by kernel_rfl)
      have e1 : av.tmps.getD 47 undef = .string t := hw 3 (by kernel_rfl)
      clear hw hF
      simp only [Oper.wp, execOp]
      go_simp
      exact hK _ x (by first | rfl | simp) (Below.refl _ _) (fun h => by cases h)
    · simp only [wpOp, List.getElem?_toArray, List.getElem?_cons_succ, List.getElem?_cons_zero, Region.wanted, if_true]
      refine Or.inl ?_
      have e0 : av.tmps.getD 45 undef = .bool true := hw 1 (by kernel_rfl)
      have e1 : av.tmps.getD 48 undef = .bool true := hw 4 (by kernel_rfl)
      clear hw hF
      simp only [Oper.wp, execOp]
      go_simp
      exact hK _ x (by first | rfl | simp) (Below.refl _ _) (fun h => by cases h)
    · simp only [wpOp, List.getElem?_toArray, List.getElem?_cons_succ, List.getElem?_cons_zero, Region.wanted, if_true]
      refine Or.inl ?_
      have e0 : av.tmps.getD 49 undef = .bool true := hw 5 (by kernel_rfl)
      clear hw hF
      simp only [Oper.wp, execOp]
      go_simp
      exact hK _ x (by first | rfl | simp) (Below.refl _ _) (fun h => by cases h)
    · simp only [wpOp, List.getElem?_toArray, List.getElem?_cons_succ, List.getElem?_cons_zero]
      have eg : av.tmps.getD 50 undef = .bool true := hw 6 (by kernel_rfl)
      refine ite_yes (wanted_yes rfl (yielded_of (t := 50) (by kernel_rfl) eg)) ?_
      clear eg
      refine Or.inl ?_
      have e0 : av.eval (.tmp 9) = .bool true := hF.2.2 9 (by decide)
      clear hw hF
      simp only [Oper.wp, execOp]
      rw [e0]
      go_simp
      exact hK _ x (by first | rfl | simp) (Below.refl _ _) (fun h => by cases h)
    · simp only [wpOp, List.getElem?_toArray, List.getElem?_cons_succ, List.getElem?_cons_zero]
      have eg : av.tmps.getD 50 undef = .bool true := hw 6 (by kernel_rfl)
      refine ite_yes (wanted_yes rfl (yielded_of (t := 50) (by kernel_rfl) eg)) ?_
      clear eg
      refine Or.inl ?_
      have e0 : av.tmps.getD 51 undef = .bool true := hw 7 (by kernel_rfl)
      clear hw hF
      simp only [Oper.wp, execOp]
      go_simp
      exact hK _ x (by first | rfl | simp) (Below.refl _ _) (fun h => by cases h)
    · simp only [wpOp, List.getElem?_toArray, List.getElem?_cons_succ, List.getElem?_cons_zero]
      have eg : av.tmps.getD 52 undef = .bool true := hw 8 (by kernel_rfl)
      refine ite_yes (wanted_yes rfl (yielded_of (t := 52) (by kernel_rfl) eg)) ?_
      clear eg
      refine Or.inl ?_
      have e0 : av.eval (.tmp 7) = .int .i64 0 := hF.2.2 7 (by decide)
      clear hw hF
      simp only [Oper.wp, execOp]
      rw [e0]
      go_simp
      exact hK _ x (by first | rfl | simp) (Below.refl _ _) (fun h => by cases h)
    · simp only [wpOp, List.getElem?_toArray, List.getElem?_cons_succ, List.getElem?_cons_zero]
      have eg : av.tmps.getD 52 undef = .bool true := hw 8 (by kernel_rfl)
      refine ite_yes (wanted_yes rfl (yielded_of (t := 52) (by kernel_rfl) eg)) ?_
      clear eg
      refine Or.inl ?_
      have e0 : av.tmps.getD 53 undef = .int .i64 0 := hw 9 (by kernel_rfl)
      clear hw hF
      simp only [Oper.wp, execOp]
      go_simp
      exact hK _ x (by first | rfl | simp) (Below.refl _ _) (fun h => by cases h)
    · simp only [wpOp, List.getElem?_toArray, List.getElem?_cons_succ, List.getElem?_cons_zero]
      have eg : av.tmps.getD 50 undef = .bool true := hw 6 (by kernel_rfl)
      refine ite_yes (wanted_yes rfl (yielded_of (t := 50) (by kernel_rfl) eg)) ?_
      clear eg
      refine Or.inl ?_
      have e0 : av.tmps.getD 52 undef = .bool true := hw 8 (by kernel_rfl)
      have e1 : av.tmps.getD 54 undef = .bool true := hw 10 (by kernel_rfl)
      clear hw hF
      simp only [Oper.wp, execOp]
      go_simp
      exact hK _ x (by first | rfl | simp) (Below.refl _ _) (fun h => by cases h)
    · simp only [wpOp, List.getElem?_toArray, List.getElem?_cons_succ, List.getElem?_cons_zero]
      have eg : av.tmps.getD 50 undef = .bool true := hw 6 (by kernel_rfl)
      refine ite_yes (wanted_yes rfl (yielded_of (t := 50) (by kernel_rfl) eg)) ?_
      clear eg
      refine Or.inl ?_
      have e0 : av.tmps.getD 55 undef = .bool true := hw 11 (by kernel_rfl)
      clear hw hF
      simp only [Oper.wp, execOp]
      go_simp
      exact hK _ x (by first | rfl | simp) (Below.refl _ _) (fun h => by cases h)
    · simp only [wpOp, List.getElem?_toArray, List.getElem?_cons_succ, List.getElem?_cons_zero]
      have eg : av.tmps.getD 56 undef = .bool true := hw 12 (by kernel_rfl)
      refine ite_not (wanted_not rfl (yielded_of (t := 56) (by kernel_rfl) eg)) ?_
      exact hK _ x rfl (Below.refl _ _) (fun h => by cases h)
    · simp only [wpOp, List.getElem?_toArray, List.getElem?_cons_succ, List.getElem?_cons_zero]
      have eg : av.tmps.getD 56 undef = .bool true := hw 12 (by kernel_rfl)
      refine ite_not (wanted_not rfl (yielded_of (t := 56) (by kernel_rfl) eg)) ?_
      exact hK _ x rfl (Below.refl _ _) (fun h => by cases h)
    · simp only [wpOp, List.getElem?_toArray, List.getElem?_cons_succ, List.getElem?_cons_zero]
      have eg : av.tmps.getD 56 undef = .bool true := hw 12 (by kernel_rfl)
      refine ite_not (wanted_not rfl (yielded_of (t := 56) (by kernel_rfl) eg)) ?_
      exact hK _ x rfl (Below.refl _ _) (fun h => by cases h)
    · simp only [wpOp, List.getElem?_toArray, List.getElem?_cons_succ, List.getElem?_cons_zero]
      have eg : av.tmps.getD 59 undef = undef := hw 15 (by kernel_rfl)
      refine ite_not (wanted_none rfl (yielded_none (t := 59) (by kernel_rfl) eg)) ?_
      exact hK _ x rfl (Below.refl _ _) (fun h => by cases h)
    · simp only [wpOp, List.getElem?_toArray, List.getElem?_cons_succ, List.getElem?_cons_zero]
      have eg : av.tmps.getD 59 undef = undef := hw 15 (by kernel_rfl)
      refine ite_not (wanted_none rfl (yielded_none (t := 59) (by kernel_rfl) eg)) ?_
      exact hK _ x rfl (Below.refl _ _) (fun h => by cases h)
    · simp only [wpOp, List.getElem?_toArray, List.getElem?_cons_succ, List.getElem?_cons_zero]
      have eg : av.tmps.getD 56 undef = .bool true := hw 12 (by kernel_rfl)
      refine ite_not (wanted_not rfl (yielded_of (t := 56) (by kernel_rfl) eg)) ?_
      exact hK _ x rfl (Below.refl _ _) (fun h => by cases h)
    · simp only [wpOp, List.getElem?_toArray, List.getElem?_cons_succ, List.getElem?_cons_zero]
      have eg : av.tmps.getD 50 undef = .bool true := hw 6 (by kernel_rfl)
      refine ite_yes (wanted_yes rfl (yielded_of (t := 50) (by kernel_rfl) eg)) ?_
      clear eg
      refine Or.inl ?_
      have e0 : av.tmps.getD 56 undef = .bool true := hw 12 (by kernel_rfl)
      have e1 : av.tmps.getD 62 undef = undef := hw 18 (by kernel_rfl)
      clear hw hF
      simp only [Oper.wp, execOp]
      go_simp
      exact hK _ x (by first | rfl | simp) (Below.refl _ _) (fun h => by cases h)
    · simp only [wpOp, List.getElem?_toArray, List.getElem?_cons_succ, List.getElem?_cons_zero, Region.wanted, if_true]
      refine Or.inl ?_
      have e0 : av.tmps.getD 50 undef = .bool true := hw 6 (by kernel_rfl)
      have e1 : av.tmps.getD 63 undef = .bool true := hw 19 (by kernel_rfl)
      clear hw hF
      simp only [Oper.wp, execOp]
      go_simp
      exact hK _ x (by first | rfl | simp) (Below.refl _ _) (fun h => by cases h)
    · simp only [wpOp, List.getElem?_toArray, List.getElem?_cons_succ, List.getElem?_cons_zero, Region.wanted, if_true]
      refine Or.inl ?_
      have e0 : av.tmps.getD 64 undef = .bool true := hw 20 (by kernel_rfl)
      clear hw hF
      simp only [Oper.wp, execOp]
      go_simp
      exact hK _ x (by first | rfl | simp) (Below.refl _ _) (fun h => by cases h)
    · simp only [wpOp, List.getElem?_toArray, List.getElem?_cons_succ, List.getElem?_cons_zero]
      have eg : av.tmps.getD 65 undef = .bool true := hw 21 (by kernel_rfl)
      refine ite_yes (wanted_yes rfl (yielded_of (t := 65) (by kernel_rfl) eg)) ?_
      clear eg
      refine Or.inl ?_
      have e0 : av.eval (.tmp 14) = .bool true := hF.2.2 14 (by decide)
      clear hw hF
      simp only [Oper.wp, execOp]
      rw [e0]
      go_simp
      exact hK _ x (by first | rfl | simp) (Below.refl _ _) (fun h => by cases h)
    · simp only [wpOp, List.getElem?_toArray, List.getElem?_cons_succ, List.getElem?_cons_zero, Region.wanted, if_true]
      refine Or.inl ?_
      have e0 : av.tmps.getD 65 undef = .bool true := hw 21 (by kernel_rfl)
      have e1 : av.tmps.getD 66 undef = .bool true := hw 22 (by kernel_rfl)
      clear hw hF
      simp only [Oper.wp, execOp]
      go_simp
      exact hK _ x (by first | rfl | simp) (Below.refl _ _) (fun h => by cases h)
    · simp only [wpOp, List.getElem?_toArray, List.getElem?_cons_succ, List.getElem?_cons_zero, Region.wanted, if_true]
      refine Or.inl ?_
      have e0 : av.tmps.getD 67 undef = .bool true := hw 23 (by kernel_rfl)
      clear hw hF
      simp only [Oper.wp, execOp]
      go_simp
      exact hK _ x (by first | rfl | simp) (Below.refl _ _) (fun h => by cases h)
    · simp only [wpOp, List.getElem?_toArray, List.getElem?_cons_succ, List.getElem?_cons_zero]
      have eg : av.tmps.getD 68 undef = .bool true := hw 24 (by kernel_rfl)
      refine ite_yes (wanted_yes rfl (yielded_of (t := 68) (by kernel_rfl) eg)) ?_
      clear eg
      refine Or.inl ?_
      have e0 : av.eval (.tmp 13) = .bool false := hF.2.2 13 (by decide)
      clear hw hF
      simp only [Oper.wp, execOp]
      rw [e0]
      go_simp
      exact hK _ x (by first | rfl | simp) (Below.refl _ _) (fun h => by cases h)
    · simp only [wpOp, List.getElem?_toArray, List.getElem?_cons_succ, List.getElem?_cons_zero]
      have eg : av.tmps.getD 68 undef = .bool true := hw 24 (by kernel_rfl)
      refine ite_yes (wanted_yes rfl (yielded_of (t := 68) (by kernel_rfl) eg)) ?_
      clear eg
      refine Or.inl ?_
      have e0 : av.tmps.getD 69 undef = .bool false := hw 25 (by kernel_rfl)
      clear hw hF
      simp only [Oper.wp, execOp]
      go_simp
      exact hK _ x (by first | rfl | simp) (Below.refl _ _) (fun h => by cases h)
    · simp only [wpOp, List.getElem?_toArray, List.getElem?_cons_succ, List.getElem?_cons_zero]
      have eg : av.tmps.getD 70 undef = .bool false := hw 26 (by kernel_rfl)
      refine ite_not (wanted_not rfl (yielded_of (t := 70) (by kernel_rfl) eg)) ?_
      exact hK _ x rfl (Below.refl _ _) (fun h => by cases h)
    · simp only [wpOp, List.getElem?_toArray, List.getElem?_cons_succ, List.getElem?_cons_zero]
      have eg : av.tmps.getD 70 undef = .bool false := hw 26 (by kernel_rfl)
      refine ite_not (wanted_not rfl (yielded_of (t := 70) (by kernel_rfl) eg)) ?_
      exact hK _ x rfl (Below.refl _ _) (fun h => by cases h)
    · simp only [wpOp, List.getElem?_toArray, List.getElem?_cons_succ, List.getElem?_cons_zero]
      have eg : av.tmps.getD 68 undef = .bool true := hw 24 (by kernel_rfl)
      refine ite_yes (wanted_yes rfl (yielded_of (t := 68) (by kernel_rfl) eg)) ?_
      clear eg
      refine Or.inl ?_
      have e0 : av.tmps.getD 70 undef = .bool false := hw 26 (by kernel_rfl)
      have e1 : av.tmps.getD 72 undef = undef := hw 28 (by kernel_rfl)
      clear hw hF
      simp only [Oper.wp, execOp]
      go_simp
      exact hK _ x (by first | rfl | simp) (Below.refl _ _) (fun h => by cases h)
    · simp only [wpOp, List.getElem?_toArray, List.getElem?_cons_succ, List.getElem?_cons_zero]
      have eg : av.tmps.getD 68 undef = .bool true := hw 24 (by kernel_rfl)
      refine ite_yes (wanted_yes rfl (yielded_of (t := 68) (by kernel_rfl) eg)) ?_
      clear eg
      refine Or.inl ?_
      have e0 : av.tmps.getD 73 undef = .bool false := hw 29 (by kernel_rfl)
      clear hw hF
      simp only [Oper.wp, execOp]
      go_simp
      exact hK _ x (by first | rfl | simp) (Below.refl _ _) (fun h => by cases h)
    · simp only [wpOp, List.getElem?_toArray, List.getElem?_cons_succ, List.getElem?_cons_zero]
      have eg : av.tmps.getD 74 undef = .bool false := hw 30 (by kernel_rfl)
      refine ite_yes (wanted_yes rfl (yielded_of (t := 74) (by kernel_rfl) eg)) ?_
      clear eg
      refine Or.inl ?_
      have e0 : av.eval (.tmp 13) = .bool false := hF.2.2 13 (by decide)
      clear hw hF
      simp only [Oper.wp, execOp]
      rw [e0]
      go_simp
      exact hK _ x (by first | rfl | simp) (Below.refl _ _) (fun h => by cases h)
    · simp only [wpOp, List.getElem?_toArray, List.getElem?_cons_succ, List.getElem?_cons_zero]
      have eg : av.tmps.getD 74 undef = .bool false := hw 30 (by kernel_rfl)
      refine ite_yes (wanted_yes rfl (yielded_of (t := 74) (by kernel_rfl) eg)) ?_
      clear eg
      refine Or.inl ?_
      have e0 : av.tmps.getD 75 undef = .bool false := hw 31 (by kernel_rfl)
      clear hw hF
      simp only [Oper.wp, execOp]
      go_simp
      exact hK _ x (by first | rfl | simp) (Below.refl _ _) (fun h => by cases h)
    · simp only [wpOp, List.getElem?_toArray, List.getElem?_cons_succ, List.getElem?_cons_zero]
      have eg : av.tmps.getD 74 undef = .bool false := hw 30 (by kernel_rfl)
      refine ite_yes (wanted_yes rfl (yielded_of (t := 74) (by kernel_rfl) eg)) ?_
      clear eg
      refine Or.inl ?_
      have e0 : av.tmps.getD 76 undef = .bool true := hw 32 (by kernel_rfl)
      clear hw hF
      simp only [Oper.wp, execOp]
      go_simp
      exact hK _ x (by first | rfl | simp) (Below.refl _ _) (fun h => by cases h)
    · simp only [wpOp, List.getElem?_toArray, List.getElem?_cons_succ, List.getElem?_cons_zero]
      have eg : av.tmps.getD 77 undef = .bool true := hw 33 (by kernel_rfl)
      refine ite_yes (wanted_yes rfl (yielded_of (t := 77) (by kernel_rfl) eg)) ?_
      clear eg
      refine Or.inl ?_
      have e0 : av.eval (.tmp 11) = .int .i64 2 := hF.2.2 11 (by decide)
      clear hw hF
      simp only [Oper.wp, execOp]
      rw [e0]
      go_simp
      exact hK _ x (by first | rfl | simp) (Below.refl _ _) (fun h => by cases h)
    · simp only [wpOp, List.getElem?_toArray, List.getElem?_cons_succ, List.getElem?_cons_zero]
      have eg : av.tmps.getD 77 undef = .bool true := hw 33 (by kernel_rfl)
      refine ite_yes (wanted_yes rfl (yielded_of (t := 77) (by kernel_rfl) eg)) ?_
      clear eg
      refine Or.inl ?_
      have e0 : av.tmps.getD 78 undef = .int .i64 2 := hw 34 (by kernel_rfl)
      clear hw hF
      simp only [Oper.wp, execOp]
      go_simp
      exact hK _ x (by first | rfl | simp) (Below.refl _ _) (fun h => by cases h)
    · simp only [wpOp, List.getElem?_toArray, List.getElem?_cons_succ, List.getElem?_cons_zero]
      have eg : av.tmps.getD 74 undef = .bool false := hw 30 (by kernel_rfl)
      refine ite_yes (wanted_yes rfl (yielded_of (t := 74) (by kernel_rfl) eg)) ?_
      clear eg
      refine Or.inl ?_
      have e0 : av.tmps.getD 77 undef = .bool true := hw 33 (by kernel_rfl)
      have e1 : av.tmps.getD 79 undef = .bool true := hw 35 (by kernel_rfl)
      clear hw hF
      simp only [Oper.wp, execOp]
      go_simp
      exact hK _ x (by first | rfl | simp) (Below.refl _ _) (fun h => by cases h)
    · simp only [wpOp, List.getElem?_toArray, List.getElem?_cons_succ, List.getElem?_cons_zero]
      have eg : av.tmps.getD 68 undef = .bool true := hw 24 (by kernel_rfl)
      refine ite_yes (wanted_yes rfl (yielded_of (t := 68) (by kernel_rfl) eg)) ?_
      clear eg
      refine Or.inl ?_
      have e0 : av.tmps.getD 74 undef = .bool false := hw 30 (by kernel_rfl)
      have e1 : av.tmps.getD 80 undef = .bool true := hw 36 (by kernel_rfl)
      clear hw hF
      simp only [Oper.wp, execOp]
      go_simp
      exact hK _ x (by first | rfl | simp) (Below.refl _ _) (fun h => by cases h)
    · simp only [wpOp, List.getElem?_toArray, List.getElem?_cons_succ, List.getElem?_cons_zero, Region.wanted, if_true]
      refine Or.inl ?_
      have e0 : av.tmps.getD 68 undef = .bool true := hw 24 (by kernel_rfl)
      have e1 : av.tmps.getD 81 undef = .bool true := hw 37 (by kernel_rfl)
      clear hw hF
      simp only [Oper.wp, execOp]
      go_simp
      exact hK _ x (by first | rfl | simp) (Below.refl _ _) (fun h => by cases h)
    · simp only [wpOp, List.getElem?_toArray, List.getElem?_cons_succ, List.getElem?_cons_zero, Region.wanted, if_true]
      refine Or.inl ?_
      have e0 : av.tmps.getD 82 undef = .bool true := hw 38 (by kernel_rfl)
      clear hw hF
      simp only [Oper.wp, execOp]
      go_simp
      exact hK _ x (by first | rfl | simp) (Below.refl _ _) (fun h => by cases h)
    · simp only [wpOp, List.getElem?_toArray, List.getElem?_cons_succ, List.getElem?_cons_zero]
      have eg : av.tmps.getD 83 undef = .bool true := hw 39 (by kernel_rfl)
      refine ite_yes (wanted_yes rfl (yielded_of (t := 83) (by kernel_rfl) eg)) ?_
      clear eg
      refine Or.inl ?_
      have e0 : av.eval (.tmp 2) = .pointer (some ⟨w.heap.size, 0, none⟩) := hF.2.2 2 (by decide)
      have f0 := row_c (row_on B0.out hb) (i := 0) rfl
      have f1 := row_c (row_on B0.out hb) (i := 1) rfl
      clear hw hF
      simp only [Oper.wp, execOp]
      rw [e0]
      go_simp
      exact hK _ x (by first | rfl | simp) (Below.refl _ _) (fun h => by cases h)
    · simp only [wpOp, List.getElem?_toArray, List.getElem?_cons_succ, List.getElem?_cons_zero]
      have eg : av.tmps.getD 83 undef = .bool true := hw 39 (by kernel_rfl)
      refine ite_yes (wanted_yes rfl (yielded_of (t := 83) (by kernel_rfl) eg)) ?_
      clear eg
      refine Or.inl ?_
      have e0 : av.tmps.getD 84 undef = .agg #[.int .i64 next, .slice A2 zs.length c2] := hw 40 (by kernel_rfl)
      clear hw hF
      simp only [Oper.wp, execOp]
      go_simp
      refine (RG.out A2 c2 x (V3.out.below hb)).mono ?_
      rintro e y ⟨rfl, hbb⟩
      exact hK _ y rfl hbb (fun h => by cases h)
    · simp only [wpOp, List.getElem?_toArray, List.getElem?_cons_succ, List.getElem?_cons_zero]
      have eg : av.tmps.getD 83 undef = .bool true := hw 39 (by kernel_rfl)
      refine ite_yes (wanted_yes rfl (yielded_of (t := 83) (by kernel_rfl) eg)) ?_
      clear eg
      refine Or.inl ?_
      have e0 : av.eval (.tmp 2) = .pointer (some ⟨w.heap.size, 0, none⟩) := hF.2.2 2 (by decide)
      have f0 := row_c (row_on B0.out hb) (i := 0) rfl
      have f1 := row_c (row_on B0.out hb) (i := 1) rfl
      clear hw hF
      simp only [Oper.wp, execOp]
      rw [e0]
      go_simp
      exact hK _ x (by first | rfl | simp) (Below.refl _ _) (fun h => by cases h)
    · simp only [wpOp, List.getElem?_toArray, List.getElem?_cons_succ, List.getElem?_cons_zero]
      have eg : av.tmps.getD 83 undef = .bool true := hw 39 (by kernel_rfl)
      refine ite_yes (wanted_yes rfl (yielded_of (t := 83) (by kernel_rfl) eg)) ?_
      clear eg
      refine Or.inl ?_
      have e0 : av.tmps.getD 86 undef = .agg #[.int .i64 next, .slice A2 zs.length c2] := hw 42 (by kernel_rfl)
      clear hw hF
      simp only [Oper.wp, execOp]
      go_simp
      refine (RE.out A2 c2 x (V3.out.below hb)).mono ?_
      rintro e y ⟨A4, c4, rfl, hv, hbb, _⟩
      exact hK _ y ⟨A4, c4, rfl, hv⟩ hbb (fun h => by cases h)
    · simp only [wpOp, List.getElem?_toArray, List.getElem?_cons_succ, List.getElem?_cons_zero]
      have eg : av.tmps.getD 83 undef = .bool true := hw 39 (by kernel_rfl)
      refine ite_yes (wanted_yes rfl (yielded_of (t := 83) (by kernel_rfl) eg)) ?_
      clear eg
      refine Or.inl ?_
      obtain ⟨Ar, cr, e0, hv⟩ := hw 43 (by kernel_rfl)
      replace e0 : av.tmps.getD 87 undef = .agg #[.int .i64 next, .slice Ar zs.length cr] := e0
      clear hw hF
      simp only [Oper.wp, execOp]
      go_simp
      refine (RG2.out Ar cr x hv).mono ?_
      rintro e y ⟨rfl, hbb⟩
      exact hK _ y rfl hbb (fun h => by cases h)
    · simp only [wpOp, List.getElem?_toArray, List.getElem?_cons_succ, List.getElem?_cons_zero]
      have eg : av.tmps.getD 83 undef = .bool true := hw 39 (by kernel_rfl)
      refine ite_yes (wanted_yes rfl (yielded_of (t := 83) (by kernel_rfl) eg)) ?_
      clear eg
      refine Or.inl ?_
      have e0 : av.tmps.getD 85 undef = .bool rb := hw 41 (by kernel_rfl)
      have e1 : av.tmps.getD 88 undef = .bool rb := hw 44 (by kernel_rfl)
      clear hw hF
      simp only [Oper.wp, execOp]
      go_simp
      exact hK _ x (by first | rfl | simp) (Below.refl _ _) (fun h => by cases h)
    · simp only [wpOp, List.getElem?_toArray, List.getElem?_cons_succ, List.getElem?_cons_zero, Region.wanted, if_true]
      refine Or.inl ?_
      have e0 : av.tmps.getD 83 undef = .bool true := hw 39 (by kernel_rfl)
      have e1 : av.tmps.getD 89 undef = .bool true := hw 45 (by kernel_rfl)
      clear hw hF
      simp only [Oper.wp, execOp]
      go_simp
      exact hK _ x (by first | rfl | simp) (Below.refl _ _) (fun h => by cases h)
  · intro av x hF hb hR _
    obtain ⟨Ar, cr, e43, _⟩ := hR 43 (by decide)
    replace e43 : av.tmps.getD 87 undef = .agg #[.int .i64 next, .slice Ar zs.length cr] := e43
    have e0 : av.tmps.getD 44 undef = .bool true := hR 0 (by decide)
    have e1 : av.tmps.getD 45 undef = .bool true := hR 1 (by decide)
    have e2 : av.tmps.getD 46 undef = .string t := hR 2 (by decide)
    have e3 : av.tmps.getD 47 undef = .string t := hR 3 (by decide)
    have e4 : av.tmps.getD 48 undef = .bool true := hR 4 (by decide)
    have e5 : av.tmps.getD 49 undef = .bool true := hR 5 (by decide)
    have e6 : av.tmps.getD 50 undef = .bool true := hR 6 (by decide)
    have e7 : av.tmps.getD 51 undef = .bool true := hR 7 (by decide)
    have e8 : av.tmps.getD 52 undef = .bool true := hR 8 (by decide)
    have e9 : av.tmps.getD 53 undef = .int .i64 0 := hR 9 (by decide)
    have e10 : av.tmps.getD 54 undef = .bool true := hR 10 (by decide)
    have e11 : av.tmps.getD 55 undef = .bool true := hR 11 (by decide)
    have e12 : av.tmps.getD 56 undef = .bool true := hR 12 (by decide)
    have e13 : av.tmps.getD 57 undef = undef := hR 13 (by decide)
    have e14 : av.tmps.getD 58 undef = undef := hR 14 (by decide)
    have e15 : av.tmps.getD 59 undef = undef := hR 15 (by decide)
    have e16 : av.tmps.getD 60 undef = undef := hR 16 (by decide)
    have e17 : av.tmps.getD 61 undef = undef := hR 17 (by decide)
    have e18 : av.tmps.getD 62 undef = undef := hR 18 (by decide)
    have e19 : av.tmps.getD 63 undef = .bool true := hR 19 (by decide)
    have e20 : av.tmps.getD 64 undef = .bool true := hR 20 (by decide)
    have e21 : av.tmps.getD 65 undef = .bool true := hR 21 (by decide)
    have e22 : av.tmps.getD 66 undef = .bool true := hR 22 (by decide)
    have e23 : av.tmps.getD 67 undef = .bool true := hR 23 (by decide)
    have e24 : av.tmps.getD 68 undef = .bool true := hR 24 (by decide)
    have e25 : av.tmps.getD 69 undef = .bool false := hR 25 (by decide)
    have e26 : av.tmps.getD 70 undef = .bool false := hR 26 (by decide)
    have e27 : av.tmps.getD 71 undef = undef := hR 27 (by decide)
    have e28 : av.tmps.getD 72 undef = undef := hR 28 (by decide)
    have e29 : av.tmps.getD 73 undef = .bool false := hR 29 (by decide)
    have e30 : av.tmps.getD 74 undef = .bool false := hR 30 (by decide)
    have e31 : av.tmps.getD 75 undef = .bool false := hR 31 (by decide)
    have e32 : av.tmps.getD 76 undef = .bool true := hR 32 (by decide)
    have e33 : av.tmps.getD 77 undef = .bool true := hR 33 (by decide)
    have e34 : av.tmps.getD 78 undef = .int .i64 2 := hR 34 (by decide)
    have e35 : av.tmps.getD 79 undef = .bool true := hR 35 (by decide)
    have e36 : av.tmps.getD 80 undef = .bool true := hR 36 (by decide)
    have e37 : av.tmps.getD 81 undef = .bool true := hR 37 (by decide)
    have e38 : av.tmps.getD 82 undef = .bool true := hR 38 (by decide)
    have e39 : av.tmps.getD 83 undef = .bool true := hR 39 (by decide)
    have e40 : av.tmps.getD 84 undef = .agg #[.int .i64 next, .slice A2 zs.length c2] := hR 40 (by decide)
    have e41 : av.tmps.getD 85 undef = .bool rb := hR 41 (by decide)
    have e42 : av.tmps.getD 86 undef = .agg #[.int .i64 next, .slice A2 zs.length c2] := hR 42 (by decide)
    have e44 : av.tmps.getD 88 undef = .bool rb := hR 44 (by decide)
    have e45 : av.tmps.getD 89 undef = .bool true := hR 45 (by decide)
    have e46 : av.tmps.getD 90 undef = .bool true := hR 46 (by decide)
    rw [hF.fold (by kernel_rfl)]
    simp only [List.foldl_cons, List.foldl_nil, e0, e1, e2, e3, e4, e5, e6, e7, e8, e9, e10, e11, e12, e13, e14, e15, e16, e17, e18, e19, e20, e21, e22, e23, e24, e25, e26, e27, e28, e29, e30, e31, e32, e33, e34, e35, e36, e37, e38, e39, e40, e41, e42, e43, e44, e45, e46]
    simp only [Act.put, List.setIfInBounds_toArray, List.set_cons_zero, List.set_cons_succ]
    change wpOps _ _ _ [47] _ _
    simp only [wpOps_cons]
    clear e0 e1 e2 e3 e4 e5 e6 e7 e8 e9 e10 e11 e12 e13 e14 e15 e16 e17 e18 e19 e20 e21 e22 e23 e24 e25 e26 e27 e28 e29 e30 e31 e32 e33 e34 e35 e36 e37 e38 e39 e40 e41 e42 e43 e44 e45 e46 hR hF
    have HE := Lib.hid hb
    clear hb
    simp only [wpOp, List.getElem?_toArray, List.getElem?_cons_succ, List.getElem?_cons_zero, Region.wanted, if_true]
    refine Or.inl ?_
    simp only [Oper.wp, execOp]
    go_simp
    try simp only [wpOps]
    go_wp2
    go_ret
    exact ⟨rfl, KK.out.trans (HE.out.mono KK.out.size)⟩
set_option maxHeartbeats 16000000 in
set_option maxRecDepth 100000 in
theorem bytes_ny (next : Int) (A : Option Addr) (c : Nat) (vs : List (Int × Int)) (S : List UInt8) (w : World) (h : Vs w A c vs) (zs : List (Int × Int)) (hz : vs.take 15 = zs) (t : ByteArray) (N2 : Int) (L2 : List (Int × Int)) (l2 : L2.length ≤ 100000)
    (hE1 : ∀ A c V, Vs V A c zs → Calls Try.prog 9 #[.agg #[.int .i64 next, .slice A zs.length c]] V fun e w' => e = .returned (.tuple #[.string t, .int .i64 1]) ∧ Below V.heap.size V w')
    (hE2 : ∀ A c V, Vs V A c zs → Calls Try.prog 10 #[.agg #[.int .i64 next, .slice A zs.length c]] V fun e w' => e = .returned (.tuple #[.string t, .bool false]) ∧ Below V.heap.size V w')
    (hD1 : ∀ V, Calls Try.prog 12 #[.string ⟨S.toArray⟩] V fun e w' => ∃ A' c', e = .returned (.tuple #[.agg #[.int .i64 N2, .slice A' L2.length c'], .int .i64 0]) ∧ Vs w' A' c' L2 ∧ Below V.heap.size V w')
    (hD2 : ∀ V, Calls Try.prog 13 #[.string ⟨S.toArray⟩] V fun e w' => ∃ A' c', e = .returned (.tuple #[.agg #[.int .i64 N2, .slice A' L2.length c'], .bool true]) ∧ Vs w' A' c' L2 ∧ Below V.heap.size V w') :
    Calls Try.prog 3 #[.agg #[.int .i64 next, .slice A vs.length c], .string ⟨S.toArray⟩] w fun e w' => e = .returned (.bool true) ∧ Below w.heap.size w w' := by
  have H := Lib.hid h
  have FW := Lib.hid (fun V (hV : Vs V A c vs) => few_any next A c vs V hV)
  have lz : zs.length ≤ 15 := by rw [← hz, List.length_take]; omega
  rw [hz] at FW
  have EN1 := Lib.hid hE1
  have EN2 := Lib.hid hE2
  have DE1 := Lib.hid hD1
  have DE2 := Lib.hid hD2
  obtain ⟨rb, hrb⟩ : ∃ b, rightB next zs = b := ⟨_, rfl⟩
  have RG := Lib.hid (fun A c V (hV : Vs V A c zs) => right_any next A c zs V hV (by omega))
  have RG2 := Lib.hid (fun A c V (hV : Vs V A c zs) => rright_any next A c zs V hV (by omega))
  rw [hrb] at RG RG2
  have RE := Lib.hid (fun A c V (hV : Vs V A c zs) => ref_any next A c zs V hV (by omega))
  have LI2 := Lib.hid (fun A B c d V (h1 : Vs V A c L2) (h2 : Vs V B d L2) => lists_any N2 A B c d L2 V h1 h2 l2)
  clear h hz hE1 hE2 hD1 hD2 l2 hrb
  go_enter Try.func3, Try.ntmps3
  go_wp2_with fail
  refine (examples_any _).mono ?_
  rintro e w1 ⟨rfl, hb⟩
  have K1 := Lib.hid (bon (bda w (.cells #[.int .i64 next, .slice A vs.length c] 24)) hb)
  have R1 := Lib.hid (row_on (heap_alloc_new w (.cells #[.int .i64 next, .slice A vs.length c] 24)) hb)
  clear hb
  have f0 := row_c R1.out (i := 0) rfl
  have f1 := row_c R1.out (i := 1) rfl
  go_wp2_with fail
  refine (FW.out _ (H.out.below K1.out)).mono ?_
  rintro e w2 ⟨A2, c2, rfl, hv, hb, hf⟩
  have r2 := row_on R1.out hb
  have q0 := row_c r2 (i := 0) rfl
  have q1 := row_c r2 (i := 1) rfl
  have z0 := frozen_of_row _ _ 0 _ _ r2
  have z1 := frozen_of_row _ _ 1 _ _ r2
  obtain ⟨w3, hw3⟩ : ∃ W : World, W = (w2.setCell ⟨w.heap.size, 0, none⟩ (.int .i64 next)).setCell ⟨w.heap.size, 1, none⟩ (.slice A2 zs.length c2) := ⟨_, rfl⟩
  have HW := Lib.hid hw3
  have s1 : w.heap.size < w1.heap.size := heap_lt R1.out
  have V3 := Lib.hid (show Vs w3 A2 c2 zs by rw [hw3]; exact (hv.set hf s1 _ _).set hf s1 _ _)
  have K3 := Lib.hid (show Below w.heap.size w w3 by rw [hw3]; exact ((bon K1.out hb).setCell (Nat.le_refl _) _).setCell (Nat.le_refl _) _)
  have R3 := Lib.hid (show w3.heap[w.heap.size]? = some (.cells #[.int .i64 next, .slice A2 zs.length c2] 24) by
    rw [hw3]
    have e1 := heap_setCell_same w2 w.heap.size 0 _ _ (.int .i64 next) r2
    exact heap_setCell_same _ w.heap.size 1 _ _ (.slice A2 zs.length c2) e1)
  clear hb hv hf f0 f1 r2 hw3
  go_upto_region 5 with (fail)
  rw [← HW.out]
  clear q0 q1 z0 z1 HW
  have f0 : w3.cell? ⟨w.heap.size, 0, none⟩ = some (.int .i64 next) := row_c R3.out (i := 0) rfl
  have f1 : w3.cell? ⟨w.heap.size, 1, none⟩ = some (.slice A2 zs.length c2) := row_c R3.out (i := 1) rfl
  have B0 := R3
  clear f0 f1
  have B0a := row_c B0.out (i := 0) rfl
  have B0b := row_c B0.out (i := 1) rfl
  go_wp2_with fail
  refine (EN1.out A2 c2 _ V3.out).mono ?_
  rintro e w4 ⟨rfl, hb⟩
  clear B0a B0b
  have Kw4 := Lib.hid (K3.out.trans (hb.mono K3.out.size))
  have B0 := Lib.hid (row_on B0.out hb)
  have V3 := Lib.hid (V3.out.below hb)
  clear hb
  have B0a := row_c B0.out (i := 0) rfl
  have B0b := row_c B0.out (i := 1) rfl
  go_wp2_with fail
  refine (RE.out A2 c2 _ V3.out).mono ?_
  rintro e w5 ⟨A4, c4, rfl, hv, hb, _⟩
  clear B0a B0b
  have Kw5 := Lib.hid (Kw4.out.trans (hb.mono Kw4.out.size))
  have B0 := Lib.hid (row_on B0.out hb)
  have V3 := Lib.hid (V3.out.below hb)
  have V4 := Lib.hid hv
  clear hv hb
  have B0a := row_c B0.out (i := 0) rfl
  have B0b := row_c B0.out (i := 1) rfl
  go_wp2_with fail
  refine (EN2.out A4 c4 _ V4.out).mono ?_
  rintro e w6 ⟨rfl, hb⟩
  clear B0a B0b
  have Kw6 := Lib.hid (Kw5.out.trans (hb.mono Kw5.out.size))
  have B0 := Lib.hid (row_on B0.out hb)
  have V3 := Lib.hid (V3.out.below hb)
  have V4 := Lib.hid (V4.out.below hb)
  clear hb
  have B0a := row_c B0.out (i := 0) rfl
  have B0b := row_c B0.out (i := 1) rfl
  go_wp2_with fail
  refine (DE1.out _).mono ?_
  rintro e w7 ⟨A7, c7, rfl, hv, hb⟩
  clear B0a B0b
  have Kw7 := Lib.hid (Kw6.out.trans (hb.mono Kw6.out.size))
  have B0 := Lib.hid (row_on B0.out hb)
  have V3 := Lib.hid (V3.out.below hb)
  have V4 := Lib.hid (V4.out.below hb)
  have V7 := Lib.hid hv
  clear hv hb
  have B0a := row_c B0.out (i := 0) rfl
  have B0b := row_c B0.out (i := 1) rfl
  go_upto_region 8 with (fail)
  clear B0a B0b
  obtain ⟨u7, hu7⟩ : ∃ U : World, U = w7.alloc (.cells #[.int .i64 N2, .slice A7 L2.length c7] 24) := ⟨_, rfl⟩
  have B2 := Lib.hid (show u7.heap[w7.heap.size]? = some (.cells #[.int .i64 N2, .slice A7 L2.length c7] 24) by rw [hu7]; exact heap_alloc_new _ _)
  have hb : Below w7.heap.size w7 u7 := by rw [hu7]; exact bda _ _
  rw [← hu7]
  clear hu7
  have Ku7 := Lib.hid (Kw7.out.trans (hb.mono Kw7.out.size))
  have B0 := Lib.hid (row_on B0.out hb)
  have V3 := Lib.hid (V3.out.below hb)
  have V4 := Lib.hid (V4.out.below hb)
  have V7 := Lib.hid (V7.out.below hb)
  clear hb
  have B0a := row_c B0.out (i := 0) rfl
  have B0b := row_c B0.out (i := 1) rfl
  have B2a := row_c B2.out (i := 0) rfl
  have B2b := row_c B2.out (i := 1) rfl
  go_wp2_with fail
  refine (DE2.out _).mono ?_
  rintro e w8 ⟨A8, c8, rfl, hv, hb⟩
  clear B0a B0b B2a B2b
  have Kw8 := Lib.hid (Ku7.out.trans (hb.mono Ku7.out.size))
  have B0 := Lib.hid (row_on B0.out hb)
  have B2 := Lib.hid (row_on B2.out hb)
  have V3 := Lib.hid (V3.out.below hb)
  have V4 := Lib.hid (V4.out.below hb)
  have V7 := Lib.hid (V7.out.below hb)
  have V8 := Lib.hid hv
  clear hv hb
  have B0a := row_c B0.out (i := 0) rfl
  have B0b := row_c B0.out (i := 1) rfl
  have B2a := row_c B2.out (i := 0) rfl
  have B2b := row_c B2.out (i := 1) rfl
  go_upto_region 9 with (fail)
  clear B0a B0b B2a B2b
  obtain ⟨u8, hu8⟩ : ∃ U : World, U = w8.alloc (.cells #[.int .i64 N2, .slice A8 L2.length c8] 34) := ⟨_, rfl⟩
  have B3 := Lib.hid (show u8.heap[w8.heap.size]? = some (.cells #[.int .i64 N2, .slice A8 L2.length c8] 34) by rw [hu8]; exact heap_alloc_new _ _)
  have hb : Below w8.heap.size w8 u8 := by rw [hu8]; exact bda _ _
  rw [← hu8]
  clear hu8
  have Ku8 := Lib.hid (Kw8.out.trans (hb.mono Kw8.out.size))
  have B0 := Lib.hid (row_on B0.out hb)
  have B2 := Lib.hid (row_on B2.out hb)
  have V3 := Lib.hid (V3.out.below hb)
  have V4 := Lib.hid (V4.out.below hb)
  have V7 := Lib.hid (V7.out.below hb)
  have V8 := Lib.hid (V8.out.below hb)
  clear hb
  have B0a := row_c B0.out (i := 0) rfl
  have B0b := row_c B0.out (i := 1) rfl
  have B2a := row_c B2.out (i := 0) rfl
  have B2b := row_c B2.out (i := 1) rfl
  have B3a := row_c B3.out (i := 0) rfl
  have B3b := row_c B3.out (i := 1) rfl
  go_wp2_with fail
  refine (LI2.out A7 A8 c7 c8 _ V7.out V8.out).mono ?_
  rintro e w9 ⟨rfl, hb⟩
  clear B0a B0b B2a B2b B3a B3b
  have Kw9 := Lib.hid (Ku8.out.trans (hb.mono Ku8.out.size))
  have B0 := Lib.hid (row_on B0.out hb)
  have B2 := Lib.hid (row_on B2.out hb)
  have B3 := Lib.hid (row_on B3.out hb)
  have V3 := Lib.hid (V3.out.below hb)
  have V4 := Lib.hid (V4.out.below hb)
  have V7 := Lib.hid (V7.out.below hb)
  have V8 := Lib.hid (V8.out.below hb)
  clear hb
  have B0a := row_c B0.out (i := 0) rfl
  have B0b := row_c B0.out (i := 1) rfl
  have B2a := row_c B2.out (i := 0) rfl
  have B2b := row_c B2.out (i := 1) rfl
  have B3a := row_c B3.out (i := 0) rfl
  have B3b := row_c B3.out (i := 1) rfl
  go_upto_region 10 with (fail)
  clear B0a B0b B2a B2b B3a B3b
  have KK := Kw9
  refine wp_operands (W := w9) rfl 47 [44, 45, 46, 47, 48, 49, 50, 51, 52, 53, 54, 55, 56, 57, 58, 59, 60, 61, 62, 63, 64, 65, 66, 67, 68, 69, 70, 71, 72, 73, 74, 75, 76, 77, 78, 79, 80, 81, 82, 83, 84, 85, 86, 87, 88, 89, 90] (fun i u x => match i with | 0 => u = .bool true | 1 => u = .bool true | 2 => u = .string t | 3 => u = .string t | 4 => u = .bool true | 5 => u = .bool true | 6 => u = .bool true | 7 => u = .bool false | 8 => u = .bool false | 9 => u = undef | 10 => u = undef | 11 => u = .bool false | 12 => u = .bool false | 13 => u = .bool false | 14 => u = .bool true | 15 => u = .bool true | 16 => u = .int .i64 1 | 17 => u = .bool true | 18 => u = .bool true | 19 => u = .bool true | 20 => u = .bool true | 21 => u = .bool true | 22 => u = .bool true | 23 => u = .bool true | 24 => u = .bool true | 25 => u = .bool true | 26 => u = .bool true | 27 => u = .int .i64 0 | 28 => u = .bool true | 29 => u = .bool true | 30 => u = .bool true | 31 => u = undef | 32 => u = undef | 33 => u = undef | 34 => u = undef | 35 => u = undef | 36 => u = undef | 37 => u = .bool true | 38 => u = .bool true | 39 => u = .bool true | 40 => u = .agg #[.int .i64 next, .slice A2 zs.length c2] | 41 => u = .bool rb | 42 => u = .agg #[.int .i64 next, .slice A2 zs.length c2] | 43 => ∃ A' c', u = .agg #[.int .i64 next, .slice A' zs.length c'] ∧ Vs x A' c' zs | 44 => u = .bool rb | 45 => u = .bool true | 46 => u = .bool true | _ => True) (fun _ => false)
    (by decide) rfl (by kernel_rfl) (by kernel_rfl) (by decide) (by kernel_rfl) ?_ (fun _ _ _ h => by cases h) ?_ ?_
  · intro i u x x' hi hR hb'
    have hi' : i = 0 ∨ i = 1 ∨ i = 2 ∨ i = 3 ∨ i = 4 ∨ i = 5 ∨ i = 6 ∨ i = 7 ∨ i = 8 ∨ i = 9 ∨ i = 10 ∨ i = 11 ∨ i = 12 ∨ i = 13 ∨ i = 14 ∨ i = 15 ∨ i = 16 ∨ i = 17 ∨ i = 18 ∨ i = 19 ∨ i = 20 ∨ i = 21 ∨ i = 22 ∨ i = 23 ∨ i = 24 ∨ i = 25 ∨ i = 26 ∨ i = 27 ∨ i = 28 ∨ i = 29 ∨ i = 30 ∨ i = 31 ∨ i = 32 ∨ i = 33 ∨ i = 34 ∨ i = 35 ∨ i = 36 ∨ i = 37 ∨ i = 38 ∨ i = 39 ∨ i = 40 ∨ i = 41 ∨ i = 42 ∨ i = 43 ∨ i = 44 ∨ i = 45 ∨ i = 46 := by omega
    rcases hi' with rfl | rfl | rfl | rfl | rfl | rfl | rfl | rfl | rfl | rfl | rfl | rfl | rfl | rfl | rfl | rfl | rfl | rfl | rfl | rfl | rfl | rfl | rfl | rfl | rfl | rfl | rfl | rfl | rfl | rfl | rfl | rfl | rfl | rfl | rfl | rfl | rfl | rfl | rfl | rfl | rfl | rfl | rfl | rfl | rfl | rfl | rfl
    · exact hR
    · exact hR
    · exact hR
    · exact hR
    · exact hR
    · exact hR
    · exact hR
    · exact hR
    · exact hR
    · exact hR
    · exact hR
    · exact hR
    · exact hR
    · exact hR
    · exact hR
    · exact hR
    · exact hR
    · exact hR
    · exact hR
    · exact hR
    · exact hR
    · exact hR
    · exact hR
    · exact hR
    · exact hR
    · exact hR
    · exact hR
    · exact hR
    · exact hR
    · exact hR
    · exact hR
    · exact hR
    · exact hR
    · exact hR
    · exact hR
    · exact hR
    · exact hR
    · exact hR
    · exact hR
    · exact hR
    · exact hR
    · exact hR
    · exact hR
    · obtain ⟨A', c', e, hg⟩ := hR; exact ⟨A', c', e, hg.below hb'⟩
    · exact hR
    · exact hR
    · exact hR
  · intro i av x K hi hF hb hw hK
    have hi' : i = 0 ∨ i = 1 ∨ i = 2 ∨ i = 3 ∨ i = 4 ∨ i = 5 ∨ i = 6 ∨ i = 7 ∨ i = 8 ∨ i = 9 ∨ i = 10 ∨ i = 11 ∨ i = 12 ∨ i = 13 ∨ i = 14 ∨ i = 15 ∨ i = 16 ∨ i = 17 ∨ i = 18 ∨ i = 19 ∨ i = 20 ∨ i = 21 ∨ i = 22 ∨ i = 23 ∨ i = 24 ∨ i = 25 ∨ i = 26 ∨ i = 27 ∨ i = 28 ∨ i = 29 ∨ i = 30 ∨ i = 31 ∨ i = 32 ∨ i = 33 ∨ i = 34 ∨ i = 35 ∨ i = 36 ∨ i = 37 ∨ i = 38 ∨ i = 39 ∨ i = 40 ∨ i = 41 ∨ i = 42 ∨ i = 43 ∨ i = 44 ∨ i = 45 ∨ i = 46 := by omega
    rcases hi' with rfl | rfl | rfl | rfl | rfl | rfl | rfl | rfl | rfl | rfl | rfl | rfl | rfl | rfl | rfl | rfl | rfl | rfl | rfl | rfl | rfl | rfl | rfl | rfl | rfl | rfl | rfl | rfl | rfl | rfl | rfl | rfl | rfl | rfl | rfl | rfl | rfl | rfl | rfl | rfl | rfl | rfl | rfl | rfl | rfl | rfl | rfl
    · simp only [wpOp, List.getElem?_toArray, List.getElem?_cons_zero, Region.wanted, if_true]
      refine Or.inl ?_
      have e0 : av.eval (.tmp 5) = .bool true := hF.2.2 5 (by decide)
      clear hw hF
      simp only [Oper.wp, execOp]
      rw [e0]
      go_simp
      exact hK _ x (by first | rfl | simp) (Below.refl _ _) (fun h => by cases h)
    · simp only [wpOp, List.getElem?_toArray, List.getElem?_cons_succ, List.getElem?_cons_zero, Region.wanted, if_true]
      refine Or.inl ?_
      have e0 : av.tmps.getD 44 undef = .bool true := hw 0 (by kernel_rfl)
      clear hw hF
      simp only [Oper.wp, execOp]
      go_simp
      exact hK _ x (by first | rfl | simp) (Below.refl _ _) (fun h => by cases h)
    · simp only [wpOp, List.getElem?_toArray, List.getElem?_cons_succ, List.getElem?_cons_zero]
      have eg : av.tmps.getD 45 undef = .bool true := hw 1 (by kernel_rfl)
      refine ite_yes (wanted_yes rfl (yielded_of (t := 45) (by kernel_rfl) eg)) ?_
      clear eg
      refine Or.inl ?_
      have e0 : av.eval (.tmp 6) = .string t := hF.2.2 6 (by decide)
      clear hw hF
      simp only [Oper.wp, execOp]
      rw [e0]
      go_simp
      exact hK _ x (by first | rfl | simp) (Below.refl _ _) (fun h => by cases h)
    · simp only [wpOp, List.getElem?_toArray, List.getElem?_cons_succ, List.getElem?_cons_zero]
      have eg : av.tmps.getD 45 undef = .bool true := hw 1 (by kernel_rfl)
      refine ite_yes (wanted_yes rfl (yielded_of (t := 45) (by kernel_rfl) eg)) ?_
      clear eg
      refine Or.inl ?_
      have e0 : av.eval (.tmp 8) = .string t := hF.2.2 8 (by decide)
      clear hw hF
      simp only [Oper.wp, execOp]
      rw [e0]
      go_simp
      exact hK _ x (by first | rfl | simp) (Below.refl _ _) (fun h => by cases h)
    · simp only [wpOp, List.getElem?_toArray, List.getElem?_cons_succ, List.getElem?_cons_zero]
      have eg : av.tmps.getD 45 undef = .bool true := hw 1 (by kernel_rfl)
      refine ite_yes (wanted_yes rfl (yielded_of (t := 45) (by kernel_rfl) eg)) ?_
      clear eg
      refine Or.inl ?_
      have e0 : av.tmps.getD 46 undef = .string t := hw 2 (by kernel_rfl)
      have e1 : av.tmps.getD 47 undef = .string t := hw 3 (by kernel_rfl)
      clear hw hF
      simp only [Oper.wp, execOp]
      go_simp
      exact hK _ x (by first | rfl | simp) (Below.refl _ _) (fun h => by cases h)
    · simp only [wpOp, List.getElem?_toArray, List.getElem?_cons_succ, List.getElem?_cons_zero, Region.wanted, if_true]
      refine Or.inl ?_
      have e0 : av.tmps.getD 45 undef = .bool true := hw 1 (by kernel_rfl)
      have e1 : av.tmps.getD 48 undef = .bool true := hw 4 (by kernel_rfl)
      clear hw hF
      simp only [Oper.wp, execOp]
      go_simp
      exact hK _ x (by first | rfl | simp) (Below.refl _ _) (fun h => by cases h)
    · simp only [wpOp, List.getElem?_toArray, List.getElem?_cons_succ, List.getElem?_cons_zero, Region.wanted, if_true]
      refine Or.inl ?_
      have e0 : av.tmps.getD 49 undef = .bool true := hw 5 (by kernel_rfl)
      clear hw hF
      simp only [Oper.wp, execOp]
      go_simp
      exact hK _ x (by first | rfl | simp) (Below.refl _ _) (fun h => by cases h)
    · simp only [wpOp, List.getElem?_toArray, List.getElem?_cons_succ, List.getElem?_cons_zero]
      have eg : av.tmps.getD 50 undef = .bool true := hw 6 (by kernel_rfl)
      refine ite_yes (wanted_yes rfl (yielded_of (t := 50) (by kernel_rfl) eg)) ?_
      clear eg
      refine Or.inl ?_
      have e0 : av.eval (.tmp 9) = .bool false := hF.2.2 9 (by decide)
      clear hw hF
      simp only [Oper.wp, execOp]
      rw [e0]
      go_simp
      exact hK _ x (by first | rfl | simp) (Below.refl _ _) (fun h => by cases h)
    · simp only [wpOp, List.getElem?_toArray, List.getElem?_cons_succ, List.getElem?_cons_zero]
      have eg : av.tmps.getD 50 undef = .bool true := hw 6 (by kernel_rfl)
      refine ite_yes (wanted_yes rfl (yielded_of (t := 50) (by kernel_rfl) eg)) ?_
      clear eg
      refine Or.inl ?_
      have e0 : av.tmps.getD 51 undef = .bool false := hw 7 (by kernel_rfl)
      clear hw hF
      simp only [Oper.wp, execOp]
      go_simp
      exact hK _ x (by first | rfl | simp) (Below.refl _ _) (fun h => by cases h)
    · simp only [wpOp, List.getElem?_toArray, List.getElem?_cons_succ, List.getElem?_cons_zero]
      have eg : av.tmps.getD 52 undef = .bool false := hw 8 (by kernel_rfl)
      refine ite_not (wanted_not rfl (yielded_of (t := 52) (by kernel_rfl) eg)) ?_
      exact hK _ x rfl (Below.refl _ _) (fun h => by cases h)
    · simp only [wpOp, List.getElem?_toArray, List.getElem?_cons_succ, List.getElem?_cons_zero]
      have eg : av.tmps.getD 52 undef = .bool false := hw 8 (by kernel_rfl)
      refine ite_not (wanted_not rfl (yielded_of (t := 52) (by kernel_rfl) eg)) ?_
      exact hK _ x rfl (Below.refl _ _) (fun h => by cases h)
    · simp only [wpOp, List.getElem?_toArray, List.getElem?_cons_succ, List.getElem?_cons_zero]
      have eg : av.tmps.getD 50 undef = .bool true := hw 6 (by kernel_rfl)
      refine ite_yes (wanted_yes rfl (yielded_of (t := 50) (by kernel_rfl) eg)) ?_
      clear eg
      refine Or.inl ?_
      have e0 : av.tmps.getD 52 undef = .bool false := hw 8 (by kernel_rfl)
      have e1 : av.tmps.getD 54 undef = undef := hw 10 (by kernel_rfl)
      clear hw hF
      simp only [Oper.wp, execOp]
      go_simp
      exact hK _ x (by first | rfl | simp) (Below.refl _ _) (fun h => by cases h)
    · simp only [wpOp, List.getElem?_toArray, List.getElem?_cons_succ, List.getElem?_cons_zero]
      have eg : av.tmps.getD 50 undef = .bool true := hw 6 (by kernel_rfl)
      refine ite_yes (wanted_yes rfl (yielded_of (t := 50) (by kernel_rfl) eg)) ?_
      clear eg
      refine Or.inl ?_
      have e0 : av.tmps.getD 55 undef = .bool false := hw 11 (by kernel_rfl)
      clear hw hF
      simp only [Oper.wp, execOp]
      go_simp
      exact hK _ x (by first | rfl | simp) (Below.refl _ _) (fun h => by cases h)
    · simp only [wpOp, List.getElem?_toArray, List.getElem?_cons_succ, List.getElem?_cons_zero]
      have eg : av.tmps.getD 56 undef = .bool false := hw 12 (by kernel_rfl)
      refine ite_yes (wanted_yes rfl (yielded_of (t := 56) (by kernel_rfl) eg)) ?_
      clear eg
      refine Or.inl ?_
      have e0 : av.eval (.tmp 9) = .bool false := hF.2.2 9 (by decide)
      clear hw hF
      simp only [Oper.wp, execOp]
      rw [e0]
      go_simp
      exact hK _ x (by first | rfl | simp) (Below.refl _ _) (fun h => by cases h)
    · simp only [wpOp, List.getElem?_toArray, List.getElem?_cons_succ, List.getElem?_cons_zero]
      have eg : av.tmps.getD 56 undef = .bool false := hw 12 (by kernel_rfl)
      refine ite_yes (wanted_yes rfl (yielded_of (t := 56) (by kernel_rfl) eg)) ?_
      clear eg
      refine Or.inl ?_
      have e0 : av.tmps.getD 57 undef = .bool false := hw 13 (by kernel_rfl)
      clear hw hF
      simp only [Oper.wp, execOp]
      go_simp
      exact hK _ x (by first | rfl | simp) (Below.refl _ _) (fun h => by cases h)
    · simp only [wpOp, List.getElem?_toArray, List.getElem?_cons_succ, List.getElem?_cons_zero]
      have eg : av.tmps.getD 56 undef = .bool false := hw 12 (by kernel_rfl)
      refine ite_yes (wanted_yes rfl (yielded_of (t := 56) (by kernel_rfl) eg)) ?_
      clear eg
      refine Or.inl ?_
      have e0 : av.tmps.getD 58 undef = .bool true := hw 14 (by kernel_rfl)
      clear hw hF
      simp only [Oper.wp, execOp]
      go_simp
      exact hK _ x (by first | rfl | simp) (Below.refl _ _) (fun h => by cases h)
    · simp only [wpOp, List.getElem?_toArray, List.getElem?_cons_succ, List.getElem?_cons_zero]
      have eg : av.tmps.getD 59 undef = .bool true := hw 15 (by kernel_rfl)
      refine ite_yes (wanted_yes rfl (yielded_of (t := 59) (by kernel_rfl) eg)) ?_
      clear eg
      refine Or.inl ?_
      have e0 : av.eval (.tmp 7) = .int .i64 1 := hF.2.2 7 (by decide)
      clear hw hF
      simp only [Oper.wp, execOp]
      rw [e0]
      go_simp
      exact hK _ x (by first | rfl | simp) (Below.refl _ _) (fun h => by cases h)
    · simp only [wpOp, List.getElem?_toArray, List.getElem?_cons_succ, List.getElem?_cons_zero]
      have eg : av.tmps.getD 59 undef = .bool true := hw 15 (by kernel_rfl)
      refine ite_yes (wanted_yes rfl (yielded_of (t := 59) (by kernel_rfl) eg)) ?_
      clear eg
      refine Or.inl ?_
      have e0 : av.tmps.getD 60 undef = .int .i64 1 := hw 16 (by kernel_rfl)
      clear hw hF
      simp only [Oper.wp, execOp]
      go_simp
      exact hK _ x (by first | rfl | simp) (Below.refl _ _) (fun h => by cases h)
    · simp only [wpOp, List.getElem?_toArray, List.getElem?_cons_succ, List.getElem?_cons_zero]
      have eg : av.tmps.getD 56 undef = .bool false := hw 12 (by kernel_rfl)
      refine ite_yes (wanted_yes rfl (yielded_of (t := 56) (by kernel_rfl) eg)) ?_
      clear eg
      refine Or.inl ?_
      have e0 : av.tmps.getD 59 undef = .bool true := hw 15 (by kernel_rfl)
      have e1 : av.tmps.getD 61 undef = .bool true := hw 17 (by kernel_rfl)
      clear hw hF
      simp only [Oper.wp, execOp]
      go_simp
      exact hK _ x (by first | rfl | simp) (Below.refl _ _) (fun h => by cases h)
    · simp only [wpOp, List.getElem?_toArray, List.getElem?_cons_succ, List.getElem?_cons_zero]
      have eg : av.tmps.getD 50 undef = .bool true := hw 6 (by kernel_rfl)
      refine ite_yes (wanted_yes rfl (yielded_of (t := 50) (by kernel_rfl) eg)) ?_
      clear eg
      refine Or.inl ?_
      have e0 : av.tmps.getD 56 undef = .bool false := hw 12 (by kernel_rfl)
      have e1 : av.tmps.getD 62 undef = .bool true := hw 18 (by kernel_rfl)
      clear hw hF
      simp only [Oper.wp, execOp]
      go_simp
      exact hK _ x (by first | rfl | simp) (Below.refl _ _) (fun h => by cases h)
    · simp only [wpOp, List.getElem?_toArray, List.getElem?_cons_succ, List.getElem?_cons_zero, Region.wanted, if_true]
      refine Or.inl ?_
      have e0 : av.tmps.getD 50 undef = .bool true := hw 6 (by kernel_rfl)
      have e1 : av.tmps.getD 63 undef = .bool true := hw 19 (by kernel_rfl)
      clear hw hF
      simp only [Oper.wp, execOp]
      go_simp
      exact hK _ x (by first | rfl | simp) (Below.refl _ _) (fun h => by cases h)
    · simp only [wpOp, List.getElem?_toArray, List.getElem?_cons_succ, List.getElem?_cons_zero, Region.wanted, if_true]
      refine Or.inl ?_
      have e0 : av.tmps.getD 64 undef = .bool true := hw 20 (by kernel_rfl)
      clear hw hF
      simp only [Oper.wp, execOp]
      go_simp
      exact hK _ x (by first | rfl | simp) (Below.refl _ _) (fun h => by cases h)
    · simp only [wpOp, List.getElem?_toArray, List.getElem?_cons_succ, List.getElem?_cons_zero]
      have eg : av.tmps.getD 65 undef = .bool true := hw 21 (by kernel_rfl)
      refine ite_yes (wanted_yes rfl (yielded_of (t := 65) (by kernel_rfl) eg)) ?_
      clear eg
      refine Or.inl ?_
      have e0 : av.eval (.tmp 14) = .bool true := hF.2.2 14 (by decide)
      clear hw hF
      simp only [Oper.wp, execOp]
      rw [e0]
      go_simp
      exact hK _ x (by first | rfl | simp) (Below.refl _ _) (fun h => by cases h)
    · simp only [wpOp, List.getElem?_toArray, List.getElem?_cons_succ, List.getElem?_cons_zero, Region.wanted, if_true]
      refine Or.inl ?_
      have e0 : av.tmps.getD 65 undef = .bool true := hw 21 (by kernel_rfl)
      have e1 : av.tmps.getD 66 undef = .bool true := hw 22 (by kernel_rfl)
      clear hw hF
      simp only [Oper.wp, execOp]
      go_simp
      exact hK _ x (by first | rfl | simp) (Below.refl _ _) (fun h => by cases h)
    · simp only [wpOp, List.getElem?_toArray, List.getElem?_cons_succ, List.getElem?_cons_zero, Region.wanted, if_true]
      refine Or.inl ?_
      have e0 : av.tmps.getD 67 undef = .bool true := hw 23 (by kernel_rfl)
      clear hw hF
      simp only [Oper.wp, execOp]
      go_simp
      exact hK _ x (by first | rfl | simp) (Below.refl _ _) (fun h => by cases h)
    · simp only [wpOp, List.getElem?_toArray, List.getElem?_cons_succ, List.getElem?_cons_zero]
      have eg : av.tmps.getD 68 undef = .bool true := hw 24 (by kernel_rfl)
      refine ite_yes (wanted_yes rfl (yielded_of (t := 68) (by kernel_rfl) eg)) ?_
      clear eg
      refine Or.inl ?_
      have e0 : av.eval (.tmp 13) = .bool true := hF.2.2 13 (by decide)
      clear hw hF
      simp only [Oper.wp, execOp]
      rw [e0]
      go_simp
      exact hK _ x (by first | rfl | simp) (Below.refl _ _) (fun h => by cases h)
    · simp only [wpOp, List.getElem?_toArray, List.getElem?_cons_succ, List.getElem?_cons_zero]
      have eg : av.tmps.getD 68 undef = .bool true := hw 24 (by kernel_rfl)
      refine ite_yes (wanted_yes rfl (yielded_of (t := 68) (by kernel_rfl) eg)) ?_
      clear eg
      refine Or.inl ?_
      have e0 : av.tmps.getD 69 undef = .bool true := hw 25 (by kernel_rfl)
      clear hw hF
      simp only [Oper.wp, execOp]
      go_simp
      exact hK _ x (by first | rfl | simp) (Below.refl _ _) (fun h => by cases h)
    · simp only [wpOp, List.getElem?_toArray, List.getElem?_cons_succ, List.getElem?_cons_zero]
      have eg : av.tmps.getD 70 undef = .bool true := hw 26 (by kernel_rfl)
      refine ite_yes (wanted_yes rfl (yielded_of (t := 70) (by kernel_rfl) eg)) ?_
      clear eg
      refine Or.inl ?_
      have e0 : av.eval (.tmp 11) = .int .i64 0 := hF.2.2 11 (by decide)
      clear hw hF
      simp only [Oper.wp, execOp]
      rw [e0]
      go_simp
      exact hK _ x (by first | rfl | simp) (Below.refl _ _) (fun h => by cases h)
    · simp only [wpOp, List.getElem?_toArray, List.getElem?_cons_succ, List.getElem?_cons_zero]
      have eg : av.tmps.getD 70 undef = .bool true := hw 26 (by kernel_rfl)
      refine ite_yes (wanted_yes rfl (yielded_of (t := 70) (by kernel_rfl) eg)) ?_
      clear eg
      refine Or.inl ?_
      have e0 : av.tmps.getD 71 undef = .int .i64 0 := hw 27 (by kernel_rfl)
      clear hw hF
      simp only [Oper.wp, execOp]
      go_simp
      exact hK _ x (by first | rfl | simp) (Below.refl _ _) (fun h => by cases h)
    · simp only [wpOp, List.getElem?_toArray, List.getElem?_cons_succ, List.getElem?_cons_zero]
      have eg : av.tmps.getD 68 undef = .bool true := hw 24 (by kernel_rfl)
      refine ite_yes (wanted_yes rfl (yielded_of (t := 68) (by kernel_rfl) eg)) ?_
      clear eg
      refine Or.inl ?_
      have e0 : av.tmps.getD 70 undef = .bool true := hw 26 (by kernel_rfl)
      have e1 : av.tmps.getD 72 undef = .bool true := hw 28 (by kernel_rfl)
      clear hw hF
      simp only [Oper.wp, execOp]
      go_simp
      exact hK _ x (by first | rfl | simp) (Below.refl _ _) (fun h => by cases h)
    · simp only [wpOp, List.getElem?_toArray, List.getElem?_cons_succ, List.getElem?_cons_zero]
      have eg : av.tmps.getD 68 undef = .bool true := hw 24 (by kernel_rfl)
      refine ite_yes (wanted_yes rfl (yielded_of (t := 68) (by kernel_rfl) eg)) ?_
      clear eg
      refine Or.inl ?_
      have e0 : av.tmps.getD 73 undef = .bool true := hw 29 (by kernel_rfl)
      clear hw hF
      simp only [Oper.wp, execOp]
      go_simp
      exact hK _ x (by first | rfl | simp) (Below.refl _ _) (fun h => by cases h)
    · simp only [wpOp, List.getElem?_toArray, List.getElem?_cons_succ, List.getElem?_cons_zero]
      have eg : av.tmps.getD 74 undef = .bool true := hw 30 (by kernel_rfl)
      refine ite_not (wanted_not rfl (yielded_of (t := 74) (by kernel_rfl) eg)) ?_
      exact hK _ x rfl (Below.refl _ _) (fun h => by cases h)
    · simp only [wpOp, List.getElem?_toArray, List.getElem?_cons_succ, List.getElem?_cons_zero]
      have eg : av.tmps.getD 74 undef = .bool true := hw 30 (by kernel_rfl)
      refine ite_not (wanted_not rfl (yielded_of (t := 74) (by kernel_rfl) eg)) ?_
      exact hK _ x rfl (Below.refl _ _) (fun h => by cases h)
    · simp only [wpOp, List.getElem?_toArray, List.getElem?_cons_succ, List.getElem?_cons_zero]
      have eg : av.tmps.getD 74 undef = .bool true := hw 30 (by kernel_rfl)
      refine ite_not (wanted_not rfl (yielded_of (t := 74) (by kernel_rfl) eg)) ?_
      exact hK _ x rfl (Below.refl _ _) (fun h => by cases h)
    · simp only [wpOp, List.getElem?_toArray, List.getElem?_cons_succ, List.getElem?_cons_zero]
      have eg : av.tmps.getD 77 undef = undef := hw 33 (by kernel_rfl)
      refine ite_not (wanted_none rfl (yielded_none (t := 77) (by kernel_rfl) eg)) ?_
      exact hK _ x rfl (Below.refl _ _) (fun h => by cases h)
    · simp only [wpOp, List.getElem?_toArray, List.getElem?_cons_succ, List.getElem?_cons_zero]
      have eg : av.tmps.getD 77 undef = undef := hw 33 (by kernel_rfl)
      refine ite_not (wanted_none rfl (yielded_none (t := 77) (by kernel_rfl) eg)) ?_
      exact hK _ x rfl (Below.refl _ _) (fun h => by cases h)
    · simp only [wpOp, List.getElem?_toArray, List.getElem?_cons_succ, List.getElem?_cons_zero]
      have eg : av.tmps.getD 74 undef = .bool true := hw 30 (by kernel_rfl)
      refine ite_not (wanted_not rfl (yielded_of (t := 74) (by kernel_rfl) eg)) ?_
      exact hK _ x rfl (Below.refl _ _) (fun h => by cases h)
    · simp only [wpOp, List.getElem?_toArray, List.getElem?_cons_succ, List.getElem?_cons_zero]
      have eg : av.tmps.getD 68 undef = .bool true := hw 24 (by kernel_rfl)
      refine ite_yes (wanted_yes rfl (yielded_of (t := 68) (by kernel_rfl) eg)) ?_
      clear eg
      refine Or.inl ?_
      have e0 : av.tmps.getD 74 undef = .bool true := hw 30 (by kernel_rfl)
      have e1 : av.tmps.getD 80 undef = undef := hw 36 (by kernel_rfl)
      clear hw hF
      simp only [Oper.wp, execOp]
      go_simp
      exact hK _ x (by first | rfl | simp) (Below.refl _ _) (fun h => by cases h)
    · simp only [wpOp, List.getElem?_toArray, List.getElem?_cons_succ, List.getElem?_cons_zero, Region.wanted, if_true]
      refine Or.inl ?_
      have e0 : av.tmps.getD 68 undef = .bool true := hw 24 (by kernel_rfl)
      have e1 : av.tmps.getD 81 undef = .bool true := hw 37 (by kernel_rfl)
      clear hw hF
      simp only [Oper.wp, execOp]
      go_simp
      exact hK _ x (by first | rfl | simp) (Below.refl _ _) (fun h => by cases h)
    · simp only [wpOp, List.getElem?_toArray, List.getElem?_cons_succ, List.getElem?_cons_zero, Region.wanted, if_true]
      refine Or.inl ?_
      have e0 : av.tmps.getD 82 undef = .bool true := hw 38 (by kernel_rfl)
      clear hw hF
      simp only [Oper.wp, execOp]
      go_simp
      exact hK _ x (by first | rfl | simp) (Below.refl _ _) (fun h => by cases h)
    · simp only [wpOp, List.getElem?_toArray, List.getElem?_cons_succ, List.getElem?_cons_zero]
      have eg : av.tmps.getD 83 undef = .bool true := hw 39 (by kernel_rfl)
      refine ite_yes (wanted_yes rfl (yielded_of (t := 83) (by kernel_rfl) eg)) ?_
      clear eg
      refine Or.inl ?_
      have e0 : av.eval (.tmp 2) = .pointer (some ⟨w.heap.size, 0, none⟩) := hF.2.2 2 (by decide)
      have f0 := row_c (row_on B0.out hb) (i := 0) rfl
      have f1 := row_c (row_on B0.out hb) (i := 1) rfl
      clear hw hF
      simp only [Oper.wp, execOp]
      rw [e0]
      go_simp
      exact hK _ x (by first | rfl | simp) (Below.refl _ _) (fun h => by cases h)
    · simp only [wpOp, List.getElem?_toArray, List.getElem?_cons_succ, List.getElem?_cons_zero]
      have eg : av.tmps.getD 83 undef = .bool true := hw 39 (by kernel_rfl)
      refine ite_yes (wanted_yes rfl (yielded_of (t := 83) (by kernel_rfl) eg)) ?_
      clear eg
      refine Or.inl ?_
      have e0 : av.tmps.getD 84 undef = .agg #[.int .i64 next, .slice A2 zs.length c2] := hw 40 (by kernel_rfl)
      clear hw hF
      simp only [Oper.wp, execOp]
      go_simp
      refine (RG.out A2 c2 x (V3.out.below hb)).mono ?_
      rintro e y ⟨rfl, hbb⟩
      exact hK _ y rfl hbb (fun h => by cases h)
    · simp only [wpOp, List.getElem?_toArray, List.getElem?_cons_succ, List.getElem?_cons_zero]
      have eg : av.tmps.getD 83 undef = .bool true := hw 39 (by kernel_rfl)
      refine ite_yes (wanted_yes rfl (yielded_of (t := 83) (by kernel_rfl) eg)) ?_
      clear eg
      refine Or.inl ?_
      have e0 : av.eval (.tmp 2) = .pointer (some ⟨w.heap.size, 0, none⟩) := hF.2.2 2 (by decide)
      have f0 := row_c (row_on B0.out hb) (i := 0) rfl
      have f1 := row_c (row_on B0.out hb) (i := 1) rfl
      clear hw hF
      simp only [Oper.wp, execOp]
      rw [e0]
      go_simp
      exact hK _ x (by first | rfl | simp) (Below.refl _ _) (fun h => by cases h)
    · simp only [wpOp, List.getElem?_toArray, List.getElem?_cons_succ, List.getElem?_cons_zero]
      have eg : av.tmps.getD 83 undef = .bool true := hw 39 (by kernel_rfl)
      refine ite_yes (wanted_yes rfl (yielded_of (t := 83) (by kernel_rfl) eg)) ?_
      clear eg
      refine Or.inl ?_
      have e0 : av.tmps.getD 86 undef = .agg #[.int .i64 next, .slice A2 zs.length c2] := hw 42 (by kernel_rfl)
      clear hw hF
      simp only [Oper.wp, execOp]
      go_simp
      refine (RE.out A2 c2 x (V3.out.below hb)).mono ?_
      rintro e y ⟨A4, c4, rfl, hv, hbb, _⟩
      exact hK _ y ⟨A4, c4, rfl, hv⟩ hbb (fun h => by cases h)
    · simp only [wpOp, List.getElem?_toArray, List.getElem?_cons_succ, List.getElem?_cons_zero]
      have eg : av.tmps.getD 83 undef = .bool true := hw 39 (by kernel_rfl)
      refine ite_yes (wanted_yes rfl (yielded_of (t := 83) (by kernel_rfl) eg)) ?_
      clear eg
      refine Or.inl ?_
      obtain ⟨Ar, cr, e0, hv⟩ := hw 43 (by kernel_rfl)
      replace e0 : av.tmps.getD 87 undef = .agg #[.int .i64 next, .slice Ar zs.length cr] := e0
      clear hw hF
      simp only [Oper.wp, execOp]
      go_simp
      refine (RG2.out Ar cr x hv).mono ?_
      rintro e y ⟨rfl, hbb⟩
      exact hK _ y rfl hbb (fun h => by cases h)
    · simp only [wpOp, List.getElem?_toArray, List.getElem?_cons_succ, List.getElem?_cons_zero]
      have eg : av.tmps.getD 83 undef = .bool true := hw 39 (by kernel_rfl)
      refine ite_yes (wanted_yes rfl (yielded_of (t := 83) (by kernel_rfl) eg)) ?_
      clear eg
      refine Or.inl ?_
      have e0 : av.tmps.getD 85 undef = .bool rb := hw 41 (by kernel_rfl)
      have e1 : av.tmps.getD 88 undef = .bool rb := hw 44 (by kernel_rfl)
      clear hw hF
      simp only [Oper.wp, execOp]
      go_simp
      exact hK _ x (by first | rfl | simp) (Below.refl _ _) (fun h => by cases h)
    · simp only [wpOp, List.getElem?_toArray, List.getElem?_cons_succ, List.getElem?_cons_zero, Region.wanted, if_true]
      refine Or.inl ?_
      have e0 : av.tmps.getD 83 undef = .bool true := hw 39 (by kernel_rfl)
      have e1 : av.tmps.getD 89 undef = .bool true := hw 45 (by kernel_rfl)
      clear hw hF
      simp only [Oper.wp, execOp]
      go_simp
      exact hK _ x (by first | rfl | simp) (Below.refl _ _) (fun h => by cases h)
  · intro av x hF hb hR _
    obtain ⟨Ar, cr, e43, _⟩ := hR 43 (by decide)
    replace e43 : av.tmps.getD 87 undef = .agg #[.int .i64 next, .slice Ar zs.length cr] := e43
    have e0 : av.tmps.getD 44 undef = .bool true := hR 0 (by decide)
    have e1 : av.tmps.getD 45 undef = .bool true := hR 1 (by decide)
    have e2 : av.tmps.getD 46 undef = .string t := hR 2 (by decide)
    have e3 : av.tmps.getD 47 undef = .string t := hR 3 (by decide)
    have e4 : av.tmps.getD 48 undef = .bool true := hR 4 (by decide)
    have e5 : av.tmps.getD 49 undef = .bool true := hR 5 (by decide)
    have e6 : av.tmps.getD 50 undef = .bool true := hR 6 (by decide)
    have e7 : av.tmps.getD 51 undef = .bool false := hR 7 (by decide)
    have e8 : av.tmps.getD 52 undef = .bool false := hR 8 (by decide)
    have e9 : av.tmps.getD 53 undef = undef := hR 9 (by decide)
    have e10 : av.tmps.getD 54 undef = undef := hR 10 (by decide)
    have e11 : av.tmps.getD 55 undef = .bool false := hR 11 (by decide)
    have e12 : av.tmps.getD 56 undef = .bool false := hR 12 (by decide)
    have e13 : av.tmps.getD 57 undef = .bool false := hR 13 (by decide)
    have e14 : av.tmps.getD 58 undef = .bool true := hR 14 (by decide)
    have e15 : av.tmps.getD 59 undef = .bool true := hR 15 (by decide)
    have e16 : av.tmps.getD 60 undef = .int .i64 1 := hR 16 (by decide)
    have e17 : av.tmps.getD 61 undef = .bool true := hR 17 (by decide)
    have e18 : av.tmps.getD 62 undef = .bool true := hR 18 (by decide)
    have e19 : av.tmps.getD 63 undef = .bool true := hR 19 (by decide)
    have e20 : av.tmps.getD 64 undef = .bool true := hR 20 (by decide)
    have e21 : av.tmps.getD 65 undef = .bool true := hR 21 (by decide)
    have e22 : av.tmps.getD 66 undef = .bool true := hR 22 (by decide)
    have e23 : av.tmps.getD 67 undef = .bool true := hR 23 (by decide)
    have e24 : av.tmps.getD 68 undef = .bool true := hR 24 (by decide)
    have e25 : av.tmps.getD 69 undef = .bool true := hR 25 (by decide)
    have e26 : av.tmps.getD 70 undef = .bool true := hR 26 (by decide)
    have e27 : av.tmps.getD 71 undef = .int .i64 0 := hR 27 (by decide)
    have e28 : av.tmps.getD 72 undef = .bool true := hR 28 (by decide)
    have e29 : av.tmps.getD 73 undef = .bool true := hR 29 (by decide)
    have e30 : av.tmps.getD 74 undef = .bool true := hR 30 (by decide)
    have e31 : av.tmps.getD 75 undef = undef := hR 31 (by decide)
    have e32 : av.tmps.getD 76 undef = undef := hR 32 (by decide)
    have e33 : av.tmps.getD 77 undef = undef := hR 33 (by decide)
    have e34 : av.tmps.getD 78 undef = undef := hR 34 (by decide)
    have e35 : av.tmps.getD 79 undef = undef := hR 35 (by decide)
    have e36 : av.tmps.getD 80 undef = undef := hR 36 (by decide)
    have e37 : av.tmps.getD 81 undef = .bool true := hR 37 (by decide)
    have e38 : av.tmps.getD 82 undef = .bool true := hR 38 (by decide)
    have e39 : av.tmps.getD 83 undef = .bool true := hR 39 (by decide)
    have e40 : av.tmps.getD 84 undef = .agg #[.int .i64 next, .slice A2 zs.length c2] := hR 40 (by decide)
    have e41 : av.tmps.getD 85 undef = .bool rb := hR 41 (by decide)
    have e42 : av.tmps.getD 86 undef = .agg #[.int .i64 next, .slice A2 zs.length c2] := hR 42 (by decide)
    have e44 : av.tmps.getD 88 undef = .bool rb := hR 44 (by decide)
    have e45 : av.tmps.getD 89 undef = .bool true := hR 45 (by decide)
    have e46 : av.tmps.getD 90 undef = .bool true := hR 46 (by decide)
    rw [hF.fold (by kernel_rfl)]
    simp only [List.foldl_cons, List.foldl_nil, e0, e1, e2, e3, e4, e5, e6, e7, e8, e9, e10, e11, e12, e13, e14, e15, e16, e17, e18, e19, e20, e21, e22, e23, e24, e25, e26, e27, e28, e29, e30, e31, e32, e33, e34, e35, e36, e37, e38, e39, e40, e41, e42, e43, e44, e45, e46]
    simp only [Act.put, List.setIfInBounds_toArray, List.set_cons_zero, List.set_cons_succ]
    change wpOps _ _ _ [47] _ _
    simp only [wpOps_cons]
    clear e0 e1 e2 e3 e4 e5 e6 e7 e8 e9 e10 e11 e12 e13 e14 e15 e16 e17 e18 e19 e20 e21 e22 e23 e24 e25 e26 e27 e28 e29 e30 e31 e32 e33 e34 e35 e36 e37 e38 e39 e40 e41 e42 e43 e44 e45 e46 hR hF
    have HE := Lib.hid hb
    clear hb
    simp only [wpOp, List.getElem?_toArray, List.getElem?_cons_succ, List.getElem?_cons_zero, Region.wanted, if_true]
    refine Or.inl ?_
    simp only [Oper.wp, execOp]
    go_simp
    try simp only [wpOps]
    go_wp2
    go_ret
    exact ⟨rfl, KK.out.trans (HE.out.mono KK.out.size)⟩
set_option maxHeartbeats 16000000 in
set_option maxRecDepth 100000 in
theorem bytes_nn (next : Int) (A : Option Addr) (c : Nat) (vs : List (Int × Int)) (S : List UInt8) (w : World) (h : Vs w A c vs) (zs : List (Int × Int)) (hz : vs.take 15 = zs) (t : ByteArray) (N2 : Int) (L2 : List (Int × Int)) (l2 : L2.length ≤ 100000)
    (hE1 : ∀ A c V, Vs V A c zs → Calls Try.prog 9 #[.agg #[.int .i64 next, .slice A zs.length c]] V fun e w' => e = .returned (.tuple #[.string t, .int .i64 1]) ∧ Below V.heap.size V w')
    (hE2 : ∀ A c V, Vs V A c zs → Calls Try.prog 10 #[.agg #[.int .i64 next, .slice A zs.length c]] V fun e w' => e = .returned (.tuple #[.string t, .bool false]) ∧ Below V.heap.size V w')
    (hD1 : ∀ V, Calls Try.prog 12 #[.string ⟨S.toArray⟩] V fun e w' => ∃ A' c', e = .returned (.tuple #[.agg #[.int .i64 N2, .slice A' L2.length c'], .int .i64 2]) ∧ Vs w' A' c' L2 ∧ Below V.heap.size V w')
    (hD2 : ∀ V, Calls Try.prog 13 #[.string ⟨S.toArray⟩] V fun e w' => ∃ A' c', e = .returned (.tuple #[.agg #[.int .i64 N2, .slice A' L2.length c'], .bool false]) ∧ Vs w' A' c' L2 ∧ Below V.heap.size V w') :
    Calls Try.prog 3 #[.agg #[.int .i64 next, .slice A vs.length c], .string ⟨S.toArray⟩] w fun e w' => e = .returned (.bool true) ∧ Below w.heap.size w w' := by
  have H := Lib.hid h
  have FW := Lib.hid (fun V (hV : Vs V A c vs) => few_any next A c vs V hV)
  have lz : zs.length ≤ 15 := by rw [← hz, List.length_take]; omega
  rw [hz] at FW
  have EN1 := Lib.hid hE1
  have EN2 := Lib.hid hE2
  have DE1 := Lib.hid hD1
  have DE2 := Lib.hid hD2
  obtain ⟨rb, hrb⟩ : ∃ b, rightB next zs = b := ⟨_, rfl⟩
  have RG := Lib.hid (fun A c V (hV : Vs V A c zs) => right_any next A c zs V hV (by omega))
  have RG2 := Lib.hid (fun A c V (hV : Vs V A c zs) => rright_any next A c zs V hV (by omega))
  rw [hrb] at RG RG2
  have RE := Lib.hid (fun A c V (hV : Vs V A c zs) => ref_any next A c zs V hV (by omega))
  have LI2 := Lib.hid (fun A B c d V (h1 : Vs V A c L2) (h2 : Vs V B d L2) => lists_any N2 A B c d L2 V h1 h2 l2)
  clear h hz hE1 hE2 hD1 hD2 l2 hrb
  go_enter Try.func3, Try.ntmps3
  go_wp2_with fail
  refine (examples_any _).mono ?_
  rintro e w1 ⟨rfl, hb⟩
  have K1 := Lib.hid (bon (bda w (.cells #[.int .i64 next, .slice A vs.length c] 24)) hb)
  have R1 := Lib.hid (row_on (heap_alloc_new w (.cells #[.int .i64 next, .slice A vs.length c] 24)) hb)
  clear hb
  have f0 := row_c R1.out (i := 0) rfl
  have f1 := row_c R1.out (i := 1) rfl
  go_wp2_with fail
  refine (FW.out _ (H.out.below K1.out)).mono ?_
  rintro e w2 ⟨A2, c2, rfl, hv, hb, hf⟩
  have r2 := row_on R1.out hb
  have q0 := row_c r2 (i := 0) rfl
  have q1 := row_c r2 (i := 1) rfl
  have z0 := frozen_of_row _ _ 0 _ _ r2
  have z1 := frozen_of_row _ _ 1 _ _ r2
  obtain ⟨w3, hw3⟩ : ∃ W : World, W = (w2.setCell ⟨w.heap.size, 0, none⟩ (.int .i64 next)).setCell ⟨w.heap.size, 1, none⟩ (.slice A2 zs.length c2) := ⟨_, rfl⟩
  have HW := Lib.hid hw3
  have s1 : w.heap.size < w1.heap.size := heap_lt R1.out
  have V3 := Lib.hid (show Vs w3 A2 c2 zs by rw [hw3]; exact (hv.set hf s1 _ _).set hf s1 _ _)
  have K3 := Lib.hid (show Below w.heap.size w w3 by rw [hw3]; exact ((bon K1.out hb).setCell (Nat.le_refl _) _).setCell (Nat.le_refl _) _)
  have R3 := Lib.hid (show w3.heap[w.heap.size]? = some (.cells #[.int .i64 next, .slice A2 zs.length c2] 24) by
    rw [hw3]
    have e1 := heap_setCell_same w2 w.heap.size 0 _ _ (.int .i64 next) r2
    exact heap_setCell_same _ w.heap.size 1 _ _ (.slice A2 zs.length c2) e1)
  clear hb hv hf f0 f1 r2 hw3
  go_upto_region 5 with (fail)
  rw [← HW.out]
  clear q0 q1 z0 z1 HW
  have f0 : w3.cell? ⟨w.heap.size, 0, none⟩ = some (.int .i64 next) := row_c R3.out (i := 0) rfl
  have f1 : w3.cell? ⟨w.heap.size, 1, none⟩ = some (.slice A2 zs.length c2) := row_c R3.out (i := 1) rfl
  have B0 := R3
  clear f0 f1
  have B0a := row_c B0.out (i := 0) rfl
  have B0b := row_c B0.out (i := 1) rfl
  go_wp2_with fail
  refine (EN1.out A2 c2 _ V3.out).mono ?_
  rintro e w4 ⟨rfl, hb⟩
  clear B0a B0b
  have Kw4 := Lib.hid (K3.out.trans (hb.mono K3.out.size))
  have B0 := Lib.hid (row_on B0.out hb)
  have V3 := Lib.hid (V3.out.below hb)
  clear hb
  have B0a := row_c B0.out (i := 0) rfl
  have B0b := row_c B0.out (i := 1) rfl
  go_wp2_with fail
  refine (RE.out A2 c2 _ V3.out).mono ?_
  rintro e w5 ⟨A4, c4, rfl, hv, hb, _⟩
  clear B0a B0b
  have Kw5 := Lib.hid (Kw4.out.trans (hb.mono Kw4.out.size))
  have B0 := Lib.hid (row_on B0.out hb)
  have V3 := Lib.hid (V3.out.below hb)
  have V4 := Lib.hid hv
  clear hv hb
  have B0a := row_c B0.out (i := 0) rfl
  have B0b := row_c B0.out (i := 1) rfl
  go_wp2_with fail
  refine (EN2.out A4 c4 _ V4.out).mono ?_
  rintro e w6 ⟨rfl, hb⟩
  clear B0a B0b
  have Kw6 := Lib.hid (Kw5.out.trans (hb.mono Kw5.out.size))
  have B0 := Lib.hid (row_on B0.out hb)
  have V3 := Lib.hid (V3.out.below hb)
  have V4 := Lib.hid (V4.out.below hb)
  clear hb
  have B0a := row_c B0.out (i := 0) rfl
  have B0b := row_c B0.out (i := 1) rfl
  go_wp2_with fail
  refine (DE1.out _).mono ?_
  rintro e w7 ⟨A7, c7, rfl, hv, hb⟩
  clear B0a B0b
  have Kw7 := Lib.hid (Kw6.out.trans (hb.mono Kw6.out.size))
  have B0 := Lib.hid (row_on B0.out hb)
  have V3 := Lib.hid (V3.out.below hb)
  have V4 := Lib.hid (V4.out.below hb)
  have V7 := Lib.hid hv
  clear hv hb
  have B0a := row_c B0.out (i := 0) rfl
  have B0b := row_c B0.out (i := 1) rfl
  go_upto_region 8 with (fail)
  clear B0a B0b
  obtain ⟨u7, hu7⟩ : ∃ U : World, U = w7.alloc (.cells #[.int .i64 N2, .slice A7 L2.length c7] 24) := ⟨_, rfl⟩
  have B2 := Lib.hid (show u7.heap[w7.heap.size]? = some (.cells #[.int .i64 N2, .slice A7 L2.length c7] 24) by rw [hu7]; exact heap_alloc_new _ _)
  have hb : Below w7.heap.size w7 u7 := by rw [hu7]; exact bda _ _
  rw [← hu7]
  clear hu7
  have Ku7 := Lib.hid (Kw7.out.trans (hb.mono Kw7.out.size))
  have B0 := Lib.hid (row_on B0.out hb)
  have V3 := Lib.hid (V3.out.below hb)
  have V4 := Lib.hid (V4.out.below hb)
  have V7 := Lib.hid (V7.out.below hb)
  clear hb
  have B0a := row_c B0.out (i := 0) rfl
  have B0b := row_c B0.out (i := 1) rfl
  have B2a := row_c B2.out (i := 0) rfl
  have B2b := row_c B2.out (i := 1) rfl
  go_wp2_with fail
  refine (DE2.out _).mono ?_
  rintro e w8 ⟨A8, c8, rfl, hv, hb⟩
  clear B0a B0b B2a B2b
  have Kw8 := Lib.hid (Ku7.out.trans (hb.mono Ku7.out.size))
  have B0 := Lib.hid (row_on B0.out hb)
  have B2 := Lib.hid (row_on B2.out hb)
  have V3 := Lib.hid (V3.out.below hb)
  have V4 := Lib.hid (V4.out.below hb)
  have V7 := Lib.hid (V7.out.below hb)
  have V8 := Lib.hid hv
  clear hv hb
  have B0a := row_c B0.out (i := 0) rfl
  have B0b := row_c B0.out (i := 1) rfl
  have B2a := row_c B2.out (i := 0) rfl
  have B2b := row_c B2.out (i := 1) rfl
  go_upto_region 9 with (fail)
  clear B0a B0b B2a B2b
  obtain ⟨u8, hu8⟩ : ∃ U : World, U = w8.alloc (.cells #[.int .i64 N2, .slice A8 L2.length c8] 34) := ⟨_, rfl⟩
  have B3 := Lib.hid (show u8.heap[w8.heap.size]? = some (.cells #[.int .i64 N2, .slice A8 L2.length c8] 34) by rw [hu8]; exact heap_alloc_new _ _)
  have hb : Below w8.heap.size w8 u8 := by rw [hu8]; exact bda _ _
  rw [← hu8]
  clear hu8
  have Ku8 := Lib.hid (Kw8.out.trans (hb.mono Kw8.out.size))
  have B0 := Lib.hid (row_on B0.out hb)
  have B2 := Lib.hid (row_on B2.out hb)
  have V3 := Lib.hid (V3.out.below hb)
  have V4 := Lib.hid (V4.out.below hb)
  have V7 := Lib.hid (V7.out.below hb)
  have V8 := Lib.hid (V8.out.below hb)
  clear hb
  have B0a := row_c B0.out (i := 0) rfl
  have B0b := row_c B0.out (i := 1) rfl
  have B2a := row_c B2.out (i := 0) rfl
  have B2b := row_c B2.out (i := 1) rfl
  have B3a := row_c B3.out (i := 0) rfl
  have B3b := row_c B3.out (i := 1) rfl
  go_wp2_with fail
  refine (LI2.out A7 A8 c7 c8 _ V7.out V8.out).mono ?_
  rintro e w9 ⟨rfl, hb⟩
  clear B0a B0b B2a B2b B3a B3b
  have Kw9 := Lib.hid (Ku8.out.trans (hb.mono Ku8.out.size))
  have B0 := Lib.hid (row_on B0.out hb)
  have B2 := Lib.hid (row_on B2.out hb)
  have B3 := Lib.hid (row_on B3.out hb)
  have V3 := Lib.hid (V3.out.below hb)
  have V4 := Lib.hid (V4.out.below hb)
  have V7 := Lib.hid (V7.out.below hb)
  have V8 := Lib.hid (V8.out.below hb)
  clear hb
  have B0a := row_c B0.out (i := 0) rfl
  have B0b := row_c B0.out (i := 1) rfl
  have B2a := row_c B2.out (i := 0) rfl
  have B2b := row_c B2.out (i := 1) rfl
  have B3a := row_c B3.out (i := 0) rfl
  have B3b := row_c B3.out (i := 1) rfl
  go_upto_region 10 with (fail)
  clear B0a B0b B2a B2b B3a B3b
  have KK := Kw9
  refine wp_operands (W := w9) rfl 47 [44, 45, 46, 47, 48, 49, 50, 51, 52, 53, 54, 55, 56, 57, 58, 59, 60, 61, 62, 63, 64, 65, 66, 67, 68, 69, 70, 71, 72, 73, 74, 75, 76, 77, 78, 79, 80, 81, 82, 83, 84, 85, 86, 87, 88, 89, 90] (fun i u x => match i with | 0 => u = .bool true | 1 => u = .bool true | 2 => u = .string t | 3 => u = .string t | 4 => u = .bool true | 5 => u = .bool true | 6 => u = .bool true | 7 => u = .bool false | 8 => u = .bool false | 9 => u = undef | 10 => u = undef | 11 => u = .bool false | 12 => u = .bool false | 13 => u = .bool false | 14 => u = .bool true | 15 => u = .bool true | 16 => u = .int .i64 1 | 17 => u = .bool true | 18 => u = .bool true | 19 => u = .bool true | 20 => u = .bool true | 21 => u = .bool true | 22 => u = .bool true | 23 => u = .bool true | 24 => u = .bool true | 25 => u = .bool false | 26 => u = .bool false | 27 => u = undef | 28 => u = undef | 29 => u = .bool false | 30 => u = .bool false | 31 => u = .bool false | 32 => u = .bool true | 33 => u = .bool true | 34 => u = .int .i64 2 | 35 => u = .bool true | 36 => u = .bool true | 37 => u = .bool true | 38 => u = .bool true | 39 => u = .bool true | 40 => u = .agg #[.int .i64 next, .slice A2 zs.length c2] | 41 => u = .bool rb | 42 => u = .agg #[.int .i64 next, .slice A2 zs.length c2] | 43 => ∃ A' c', u = .agg #[.int .i64 next, .slice A' zs.length c'] ∧ Vs x A' c' zs | 44 => u = .bool rb | 45 => u = .bool true | 46 => u = .bool true | _ => True) (fun _ => false)
    (by decide) rfl (by kernel_rfl) (by kernel_rfl) (by decide) (by kernel_rfl) ?_ (fun _ _ _ h => by cases h) ?_ ?_
  · intro i u x x' hi hR hb'
    have hi' : i = 0 ∨ i = 1 ∨ i = 2 ∨ i = 3 ∨ i = 4 ∨ i = 5 ∨ i = 6 ∨ i = 7 ∨ i = 8 ∨ i = 9 ∨ i = 10 ∨ i = 11 ∨ i = 12 ∨ i = 13 ∨ i = 14 ∨ i = 15 ∨ i = 16 ∨ i = 17 ∨ i = 18 ∨ i = 19 ∨ i = 20 ∨ i = 21 ∨ i = 22 ∨ i = 23 ∨ i = 24 ∨ i = 25 ∨ i = 26 ∨ i = 27 ∨ i = 28 ∨ i = 29 ∨ i = 30 ∨ i = 31 ∨ i = 32 ∨ i = 33 ∨ i = 34 ∨ i = 35 ∨ i = 36 ∨ i = 37 ∨ i = 38 ∨ i = 39 ∨ i = 40 ∨ i = 41 ∨ i = 42 ∨ i = 43 ∨ i = 44 ∨ i = 45 ∨ i = 46 := by omega
    rcases hi' with rfl | rfl | rfl | rfl | rfl | rfl | rfl | rfl | rfl | rfl | rfl | rfl | rfl | rfl | rfl | rfl | rfl | rfl | rfl | rfl | rfl | rfl | rfl | rfl | rfl | rfl | rfl | rfl | rfl | rfl | rfl | rfl | rfl | rfl | rfl | rfl | rfl | rfl | rfl | rfl | rfl | rfl | rfl | rfl | rfl | rfl | rfl
    · exact hR
    · exact hR
    · exact hR
    · exact hR
    · exact hR
    · exact hR
    · exact hR
    · exact hR
    · exact hR
    · exact hR
    · exact hR
    · exact hR
    · exact hR
    · exact hR
    · exact hR
    · exact hR
    · exact hR
    · exact hR
    · exact hR
    · exact hR
    · exact hR
    · exact hR
    · exact hR
    · exact hR
    · exact hR
    · exact hR
    · exact hR
    · exact hR
    · exact hR
    · exact hR
    · exact hR
    · exact hR
    · exact hR
    · exact hR
    · exact hR
    · exact hR
    · exact hR
    · exact hR
    · exact hR
    · exact hR
    · exact hR
    · exact hR
    · exact hR
    · obtain ⟨A', c', e, hg⟩ := hR; exact ⟨A', c', e, hg.below hb'⟩
    · exact hR
    · exact hR
    · exact hR
  · intro i av x K hi hF hb hw hK
    have hi' : i = 0 ∨ i = 1 ∨ i = 2 ∨ i = 3 ∨ i = 4 ∨ i = 5 ∨ i = 6 ∨ i = 7 ∨ i = 8 ∨ i = 9 ∨ i = 10 ∨ i = 11 ∨ i = 12 ∨ i = 13 ∨ i = 14 ∨ i = 15 ∨ i = 16 ∨ i = 17 ∨ i = 18 ∨ i = 19 ∨ i = 20 ∨ i = 21 ∨ i = 22 ∨ i = 23 ∨ i = 24 ∨ i = 25 ∨ i = 26 ∨ i = 27 ∨ i = 28 ∨ i = 29 ∨ i = 30 ∨ i = 31 ∨ i = 32 ∨ i = 33 ∨ i = 34 ∨ i = 35 ∨ i = 36 ∨ i = 37 ∨ i = 38 ∨ i = 39 ∨ i = 40 ∨ i = 41 ∨ i = 42 ∨ i = 43 ∨ i = 44 ∨ i = 45 ∨ i = 46 := by omega
    rcases hi' with rfl | rfl | rfl | rfl | rfl | rfl | rfl | rfl | rfl | rfl | rfl | rfl | rfl | rfl | rfl | rfl | rfl | rfl | rfl | rfl | rfl | rfl | rfl | rfl | rfl | rfl | rfl | rfl | rfl | rfl | rfl | rfl | rfl | rfl | rfl | rfl | rfl | rfl | rfl | rfl | rfl | rfl | rfl | rfl | rfl | rfl | rfl
    · simp only [wpOp, List.getElem?_toArray, List.getElem?_cons_zero, Region.wanted, if_true]
      refine Or.inl ?_
      have e0 : av.eval (.tmp 5) = .bool true := hF.2.2 5 (by decide)
      clear hw hF
      simp only [Oper.wp, execOp]
      rw [e0]
      go_simp
      exact hK _ x (by first | rfl | simp) (Below.refl _ _) (fun h => by cases h)
    · simp only [wpOp, List.getElem?_toArray, List.getElem?_cons_succ, List.getElem?_cons_zero, Region.wanted, if_true]
      refine Or.inl ?_
      have e0 : av.tmps.getD 44 undef = .bool true := hw 0 (by kernel_rfl)
      clear hw hF
      simp only [Oper.wp, execOp]
      go_simp
      exact hK _ x (by first | rfl | simp) (Below.refl _ _) (fun h => by cases h)
    · simp only [wpOp, List.getElem?_toArray, List.getElem?_cons_succ, List.getElem?_cons_zero]
      have eg : av.tmps.getD 45 undef = .bool true := hw 1 (by kernel_rfl)
      refine ite_yes (wanted_yes rfl (yielded_of (t := 45) (by kernel_rfl) eg)) ?_
      clear eg
      refine Or.inl ?_
      have e0 : av.eval (.tmp 6) = .string t := hF.2.2 6 (by decide)
      clear hw hF
      simp only [Oper.wp, execOp]
      rw [e0]
      go_simp
      exact hK _ x (by first | rfl | simp) (Below.refl _ _) (fun h => by cases h)
    · simp only [wpOp, List.getElem?_toArray, List.getElem?_cons_succ, List.getElem?_cons_zero]
      have eg : av.tmps.getD 45 undef = .bool true := hw 1 (by kernel_rfl)
      refine ite_yes (wanted_yes rfl (yielded_of (t := 45) (by kernel_rfl) eg)) ?_
      clear eg
      refine Or.inl ?_
      have e0 : av.eval (.tmp 8) = .string t := hF.2.2 8 (by decide)
      clear hw hF
      simp only [Oper.wp, execOp]
      rw [e0]
      go_simp
      exact hK _ x (by first | rfl | simp) (Below.refl _ _) (fun h => by cases h)
    · simp only [wpOp, List.getElem?_toArray, List.getElem?_cons_succ, List.getElem?_cons_zero]
      have eg : av.tmps.getD 45 undef = .bool true := hw 1 (by kernel_rfl)
      refine ite_yes (wanted_yes rfl (yielded_of (t := 45) (by kernel_rfl) eg)) ?_
      clear eg
      refine Or.inl ?_
      have e0 : av.tmps.getD 46 undef = .string t := hw 2 (by kernel_rfl)
      have e1 : av.tmps.getD 47 undef = .string t := hw 3 (by kernel_rfl)
      clear hw hF
      simp only [Oper.wp, execOp]
      go_simp
      exact hK _ x (by first | rfl | simp) (Below.refl _ _) (fun h => by cases h)
    · simp only [wpOp, List.getElem?_toArray, List.getElem?_cons_succ, List.getElem?_cons_zero, Region.wanted, if_true]
      refine Or.inl ?_
      have e0 : av.tmps.getD 45 undef = .bool true := hw 1 (by kernel_rfl)
      have e1 : av.tmps.getD 48 undef = .bool true := hw 4 (by kernel_rfl)
      clear hw hF
      simp only [Oper.wp, execOp]
      go_simp
      exact hK _ x (by first | rfl | simp) (Below.refl _ _) (fun h => by cases h)
    · simp only [wpOp, List.getElem?_toArray, List.getElem?_cons_succ, List.getElem?_cons_zero, Region.wanted, if_true]
      refine Or.inl ?_
      have e0 : av.tmps.getD 49 undef = .bool true := hw 5 (by kernel_rfl)
      clear hw hF
      simp only [Oper.wp, execOp]
      go_simp
      exact hK _ x (by first | rfl | simp) (Below.refl _ _) (fun h => by cases h)
    · simp only [wpOp, List.getElem?_toArray, List.getElem?_cons_succ, List.getElem?_cons_zero]
      have eg : av.tmps.getD 50 undef = .bool true := hw 6 (by kernel_rfl)
      refine ite_yes (wanted_yes rfl (yielded_of (t := 50) (by kernel_rfl) eg)) ?_
      clear eg
      refine Or.inl ?_
      have e0 : av.eval (.tmp 9) = .bool false := hF.2.2 9 (by decide)
      clear hw hF
      simp only [Oper.wp, execOp]
      rw [e0]
      go_simp
      exact hK _ x (by first | rfl | simp) (Below.refl _ _) (fun h => by cases h)
    · simp only [wpOp, List.getElem?_toArray, List.getElem?_cons_succ, List.getElem?_cons_zero]
      have eg : av.tmps.getD 50 undef = .bool true := hw 6 (by kernel_rfl)
      refine ite_yes (wanted_yes rfl (yielded_of (t := 50) (by kernel_rfl) eg)) ?_
      clear eg
      refine Or.inl ?_
      have e0 : av.tmps.getD 51 undef = .bool false := hw 7 (by kernel_rfl)
      clear hw hF
      simp only [Oper.wp, execOp]
      go_simp
      exact hK _ x (by first | rfl | simp) (Below.refl _ _) (fun h => by cases h)
    · simp only [wpOp, List.getElem?_toArray, List.getElem?_cons_succ, List.getElem?_cons_zero]
      have eg : av.tmps.getD 52 undef = .bool false := hw 8 (by kernel_rfl)
      refine ite_not (wanted_not rfl (yielded_of (t := 52) (by kernel_rfl) eg)) ?_
      exact hK _ x rfl (Below.refl _ _) (fun h => by cases h)
    · simp only [wpOp, List.getElem?_toArray, List.getElem?_cons_succ, List.getElem?_cons_zero]
      have eg : av.tmps.getD 52 undef = .bool false := hw 8 (by kernel_rfl)
      refine ite_not (wanted_not rfl (yielded_of (t := 52) (by kernel_rfl) eg)) ?_
      exact hK _ x rfl (Below.refl _ _) (fun h => by cases h)
    · simp only [wpOp, List.getElem?_toArray, List.getElem?_cons_succ, List.getElem?_cons_zero]
      have eg : av.tmps.getD 50 undef = .bool true := hw 6 (by kernel_rfl)
      refine ite_yes (wanted_yes rfl (yielded_of (t := 50) (by kernel_rfl) eg)) ?_
      clear eg
      refine Or.inl ?_
      have e0 : av.tmps.getD 52 undef = .bool false := hw 8 (by kernel_rfl)
      have e1 : av.tmps.getD 54 undef = undef := hw 10 (by kernel_rfl)
      clear hw hF
      simp only [Oper.wp, execOp]
      go_simp
      exact hK _ x (by first | rfl | simp) (Below.refl _ _) (fun h => by cases h)
    · simp only [wpOp, List.getElem?_toArray, List.getElem?_cons_succ, List.getElem?_cons_zero]
      have eg : av.tmps.getD 50 undef = .bool true := hw 6 (by kernel_rfl)
      refine ite_yes (wanted_yes rfl (yielded_of (t := 50) (by kernel_rfl) eg)) ?_
      clear eg
      refine Or.inl ?_
      have e0 : av.tmps.getD 55 undef = .bool false := hw 11 (by kernel_rfl)
      clear hw hF
      simp only [Oper.wp, execOp]
      go_simp
      exact hK _ x (by first | rfl | simp) (Below.refl _ _) (fun h => by cases h)
    · simp only [wpOp, List.getElem?_toArray, List.getElem?_cons_succ, List.getElem?_cons_zero]
      have eg : av.tmps.getD 56 undef = .bool false := hw 12 (by kernel_rfl)
      refine ite_yes (wanted_yes rfl (yielded_of (t := 56) (by kernel_rfl) eg)) ?_
      clear eg
      refine Or.inl ?_
      have e0 : av.eval (.tmp 9) = .bool false := hF.2.2 9 (by decide)
      clear hw hF
      simp only [Oper.wp, execOp]
      rw [e0]
      go_simp
      exact hK _ x (by first | rfl | simp) (Below.refl _ _) (fun h => by cases h)
    · simp only [wpOp, List.getElem?_toArray, List.getElem?_cons_succ, List.getElem?_cons_zero]
      have eg : av.tmps.getD 56 undef = .bool false := hw 12 (by kernel_rfl)
      refine ite_yes (wanted_yes rfl (yielded_of (t := 56) (by kernel_rfl) eg)) ?_
      clear eg
      refine Or.inl ?_
      have e0 : av.tmps.getD 57 undef = .bool false := hw 13 (by kernel_rfl)
      clear hw hF
      simp only [Oper.wp, execOp]
      go_simp
      exact hK _ x (by first | rfl | simp) (Below.refl _ _) (fun h => by cases h)
    · simp only [wpOp, List.getElem?_toArray, List.getElem?_cons_succ, List.getElem?_cons_zero]
      have eg : av.tmps.getD 56 undef = .bool false := hw 12 (by kernel_rfl)
      refine ite_yes (wanted_yes rfl (yielded_of (t := 56) (by kernel_rfl) eg)) ?_
      clear eg
      refine Or.inl ?_
      have e0 : av.tmps.getD 58 undef = .bool true := hw 14 (by kernel_rfl)
      clear hw hF
      simp only [Oper.wp, execOp]
      go_simp
      exact hK _ x (by first | rfl | simp) (Below.refl _ _) (fun h => by cases h)
    · simp only [wpOp, List.getElem?_toArray, List.getElem?_cons_succ, List.getElem?_cons_zero]
      have eg : av.tmps.getD 59 undef = .bool true := hw 15 (by kernel_rfl)
      refine ite_yes (wanted_yes rfl (yielded_of (t := 59) (by kernel_rfl) eg)) ?_
      clear eg
      refine Or.inl ?_
      have e0 : av.eval (.tmp 7) = .int .i64 1 := hF.2.2 7 (by decide)
      clear hw hF
      simp only [Oper.wp, execOp]
      rw [e0]
      go_simp
      exact hK _ x (by first | rfl | simp) (Below.refl _ _) (fun h => by cases h)
    · simp only [wpOp, List.getElem?_toArray, List.getElem?_cons_succ, List.getElem?_cons_zero]
      have eg : av.tmps.getD 59 undef = .bool true := hw 15 (by kernel_rfl)
      refine ite_yes (wanted_yes rfl (yielded_of (t := 59) (by kernel_rfl) eg)) ?_
      clear eg
      refine Or.inl ?_
      have e0 : av.tmps.getD 60 undef = .int .i64 1 := hw 16 (by kernel_rfl)
      clear hw hF
      simp only [Oper.wp, execOp]
      go_simp
      exact hK _ x (by first | rfl | simp) (Below.refl _ _) (fun h => by cases h)
    · simp only [wpOp, List.getElem?_toArray, List.getElem?_cons_succ, List.getElem?_cons_zero]
      have eg : av.tmps.getD 56 undef = .bool false := hw 12 (by kernel_rfl)
      refine ite_yes (wanted_yes rfl (yielded_of (t := 56) (by kernel_rfl) eg)) ?_
      clear eg
      refine Or.inl ?_
      have e0 : av.tmps.getD 59 undef = .bool true := hw 15 (by kernel_rfl)
      have e1 : av.tmps.getD 61 undef = .bool true := hw 17 (by kernel_rfl)
      clear hw hF
      simp only [Oper.wp, execOp]
      go_simp
      exact hK _ x (by first | rfl | simp) (Below.refl _ _) (fun h => by cases h)
    · simp only [wpOp, List.getElem?_toArray, List.getElem?_cons_succ, List.getElem?_cons_zero]
      have eg : av.tmps.getD 50 undef = .bool true := hw 6 (by kernel_rfl)
      refine ite_yes (wanted_yes rfl (yielded_of (t := 50) (by kernel_rfl) eg)) ?_
      clear eg
      refine Or.inl ?_
      have e0 : av.tmps.getD 56 undef = .bool false := hw 12 (by kernel_rfl)
      have e1 : av.tmps.getD 62 undef = .bool true := hw 18 (by kernel_rfl)
      clear hw hF
      simp only [Oper.wp, execOp]
      go_simp
      exact hK _ x (by first | rfl | simp) (Below.refl _ _) (fun h => by cases h)
    · simp only [wpOp, List.getElem?_toArray, List.getElem?_cons_succ, List.getElem?_cons_zero, Region.wanted, if_true]
      refine Or.inl ?_
      have e0 : av.tmps.getD 50 undef = .bool true := hw 6 (by kernel_rfl)
      have e1 : av.tmps.getD 63 undef = .bool true := hw 19 (by kernel_rfl)
      clear hw hF
      simp only [Oper.wp, execOp]
      go_simp
      exact hK _ x (by first | rfl | simp) (Below.refl _ _) (fun h => by cases h)
    · simp only [wpOp, List.getElem?_toArray, List.getElem?_cons_succ, List.getElem?_cons_zero, Region.wanted, if_true]
      refine Or.inl ?_
      have e0 : av.tmps.getD 64 undef = .bool true := hw 20 (by kernel_rfl)
      clear hw hF
      simp only [Oper.wp, execOp]
      go_simp
      exact hK _ x (by first | rfl | simp) (Below.refl _ _) (fun h => by cases h)
    · simp only [wpOp, List.getElem?_toArray, List.getElem?_cons_succ, List.getElem?_cons_zero]
      have eg : av.tmps.getD 65 undef = .bool true := hw 21 (by kernel_rfl)
      refine ite_yes (wanted_yes rfl (yielded_of (t := 65) (by kernel_rfl) eg)) ?_
      clear eg
      refine Or.inl ?_
      have e0 : av.eval (.tmp 14) = .bool true := hF.2.2 14 (by decide)
      clear hw hF
      simp only [Oper.wp, execOp]
      rw [e0]
      go_simp
      exact hK _ x (by first | rfl | simp) (Below.refl _ _) (fun h => by cases h)
    · simp only [wpOp, List.getElem?_toArray, List.getElem?_cons_succ, List.getElem?_cons_zero, Region.wanted, if_true]
      refine Or.inl ?_
      have e0 : av.tmps.getD 65 undef = .bool true := hw 21 (by kernel_rfl)
      have e1 : av.tmps.getD 66 undef = .bool true := hw 22 (by kernel_rfl)
      clear hw hF
      simp only [Oper.wp, execOp]
      go_simp
      exact hK _ x (by first | rfl | simp) (Below.refl _ _) (fun h => by cases h)
    · simp only [wpOp, List.getElem?_toArray, List.getElem?_cons_succ, List.getElem?_cons_zero, Region.wanted, if_true]
      refine Or.inl ?_
      have e0 : av.tmps.getD 67 undef = .bool true := hw 23 (by kernel_rfl)
      clear hw hF
      simp only [Oper.wp, execOp]
      go_simp
      exact hK _ x (by first | rfl | simp) (Below.refl _ _) (fun h => by cases h)
    · simp only [wpOp, List.getElem?_toArray, List.getElem?_cons_succ, List.getElem?_cons_zero]
      have eg : av.tmps.getD 68 undef = .bool true := hw 24 (by kernel_rfl)
      refine ite_yes (wanted_yes rfl (yielded_of (t := 68) (by kernel_rfl) eg)) ?_
      clear eg
      refine Or.inl ?_
      have e0 : av.eval (.tmp 13) = .bool false := hF.2.2 13 (by decide)
      clear hw hF
      simp only [Oper.wp, execOp]
      rw [e0]
      go_simp
      exact hK _ x (by first | rfl | simp) (Below.refl _ _) (fun h => by cases h)
    · simp only [wpOp, List.getElem?_toArray, List.getElem?_cons_succ, List.getElem?_cons_zero]
      have eg : av.tmps.getD 68 undef = .bool true := hw 24 (by kernel_rfl)
      refine ite_yes (wanted_yes rfl (yielded_of (t := 68) (by kernel_rfl) eg)) ?_
      clear eg
      refine Or.inl ?_
      have e0 : av.tmps.getD 69 undef = .bool false := hw 25 (by kernel_rfl)
      clear hw hF
      simp only [Oper.wp, execOp]
      go_simp
      exact hK _ x (by first | rfl | simp) (Below.refl _ _) (fun h => by cases h)
    · simp only [wpOp, List.getElem?_toArray, List.getElem?_cons_succ, List.getElem?_cons_zero]
      have eg : av.tmps.getD 70 undef = .bool false := hw 26 (by kernel_rfl)
      refine ite_not (wanted_not rfl (yielded_of (t := 70) (by kernel_rfl) eg)) ?_
      exact hK _ x rfl (Below.refl _ _) (fun h => by cases h)
    · simp only [wpOp, List.getElem?_toArray, List.getElem?_cons_succ, List.getElem?_cons_zero]
      have eg : av.tmps.getD 70 undef = .bool false := hw 26 (by kernel_rfl)
      refine ite_not (wanted_not rfl (yielded_of (t := 70) (by kernel_rfl) eg)) ?_
      exact hK _ x rfl (Below.refl _ _) (fun h => by cases h)
    · simp only [wpOp, List.getElem?_toArray, List.getElem?_cons_succ, List.getElem?_cons_zero]
      have eg : av.tmps.getD 68 undef = .bool true := hw 24 (by kernel_rfl)
      refine ite_yes (wanted_yes rfl (yielded_of (t := 68) (by kernel_rfl) eg)) ?_
      clear eg
      refine Or.inl ?_
      have e0 : av.tmps.getD 70 undef = .bool false := hw 26 (by kernel_rfl)
      have e1 : av.tmps.getD 72 undef = undef := hw 28 (by kernel_rfl)
      clear hw hF
      simp only [Oper.wp, execOp]
      go_simp
      exact hK _ x (by first | rfl | simp) (Below.refl _ _) (fun h => by cases h)
    · simp only [wpOp, List.getElem?_toArray, List.getElem?_cons_succ, List.getElem?_cons_zero]
      have eg : av.tmps.getD 68 undef = .bool true := hw 24 (by kernel_rfl)
      refine ite_yes (wanted_yes rfl (yielded_of (t := 68) (by kernel_rfl) eg)) ?_
      clear eg
      refine Or.inl ?_
      have e0 : av.tmps.getD 73 undef = .bool false := hw 29 (by kernel_rfl)
      clear hw hF
      simp only [Oper.wp, execOp]
      go_simp
      exact hK _ x (by first | rfl | simp) (Below.refl _ _) (fun h => by cases h)
    · simp only [wpOp, List.getElem?_toArray, List.getElem?_cons_succ, List.getElem?_cons_zero]
      have eg : av.tmps.getD 74 undef = .bool false := hw 30 (by kernel_rfl)
      refine ite_yes (wanted_yes rfl (yielded_of (t := 74) (by kernel_rfl) eg)) ?_
      clear eg
      refine Or.inl ?_
      have e0 : av.eval (.tmp 13) = .bool false := hF.2.2 13 (by decide)
      clear hw hF
      simp only [Oper.wp, execOp]
      rw [e0]
      go_simp
      exact hK _ x (by first | rfl | simp) (Below.refl _ _) (fun h => by cases h)
    · simp only [wpOp, List.getElem?_toArray, List.getElem?_cons_succ, List.getElem?_cons_zero]
      have eg : av.tmps.getD 74 undef = .bool false := hw 30 (by kernel_rfl)
      refine ite_yes (wanted_yes rfl (yielded_of (t := 74) (by kernel_rfl) eg)) ?_
      clear eg
      refine Or.inl ?_
      have e0 : av.tmps.getD 75 undef = .bool false := hw 31 (by kernel_rfl)
      clear hw hF
      simp only [Oper.wp, execOp]
      go_simp
      exact hK _ x (by first | rfl | simp) (Below.refl _ _) (fun h => by cases h)
    · simp only [wpOp, List.getElem?_toArray, List.getElem?_cons_succ, List.getElem?_cons_zero]
      have eg : av.tmps.getD 74 undef = .bool false := hw 30 (by kernel_rfl)
      refine ite_yes (wanted_yes rfl (yielded_of (t := 74) (by kernel_rfl) eg)) ?_
      clear eg
      refine Or.inl ?_
      have e0 : av.tmps.getD 76 undef = .bool true := hw 32 (by kernel_rfl)
      clear hw hF
      simp only [Oper.wp, execOp]
      go_simp
      exact hK _ x (by first | rfl | simp) (Below.refl _ _) (fun h => by cases h)
    · simp only [wpOp, List.getElem?_toArray, List.getElem?_cons_succ, List.getElem?_cons_zero]
      have eg : av.tmps.getD 77 undef = .bool true := hw 33 (by kernel_rfl)
      refine ite_yes (wanted_yes rfl (yielded_of (t := 77) (by kernel_rfl) eg)) ?_
      clear eg
      refine Or.inl ?_
      have e0 : av.eval (.tmp 11) = .int .i64 2 := hF.2.2 11 (by decide)
      clear hw hF
      simp only [Oper.wp, execOp]
      rw [e0]
      go_simp
      exact hK _ x (by first | rfl | simp) (Below.refl _ _) (fun h => by cases h)
    · simp only [wpOp, List.getElem?_toArray, List.getElem?_cons_succ, List.getElem?_cons_zero]
      have eg : av.tmps.getD 77 undef = .bool true := hw 33 (by kernel_rfl)
      refine ite_yes (wanted_yes rfl (yielded_of (t := 77) (by kernel_rfl) eg)) ?_
      clear eg
      refine Or.inl ?_
      have e0 : av.tmps.getD 78 undef = .int .i64 2 := hw 34 (by kernel_rfl)
      clear hw hF
      simp only [Oper.wp, execOp]
      go_simp
      exact hK _ x (by first | rfl | simp) (Below.refl _ _) (fun h => by cases h)
    · simp only [wpOp, List.getElem?_toArray, List.getElem?_cons_succ, List.getElem?_cons_zero]
      have eg : av.tmps.getD 74 undef = .bool false := hw 30 (by kernel_rfl)
      refine ite_yes (wanted_yes rfl (yielded_of (t := 74) (by kernel_rfl) eg)) ?_
      clear eg
      refine Or.inl ?_
      have e0 : av.tmps.getD 77 undef = .bool true := hw 33 (by kernel_rfl)
      have e1 : av.tmps.getD 79 undef = .bool true := hw 35 (by kernel_rfl)
      clear hw hF
      simp only [Oper.wp, execOp]
      go_simp
      exact hK _ x (by first | rfl | simp) (Below.refl _ _) (fun h => by cases h)
    · simp only [wpOp, List.getElem?_toArray, List.getElem?_cons_succ, List.getElem?_cons_zero]
      have eg : av.tmps.getD 68 undef = .bool true := hw 24 (by kernel_rfl)
      refine ite_yes (wanted_yes rfl (yielded_of (t := 68) (by kernel_rfl) eg)) ?_
      clear eg
      refine Or.inl ?_
      have e0 : av.tmps.getD 74 undef = .bool false := hw 30 (by kernel_rfl)
      have e1 : av.tmps.getD 80 undef = .bool true := hw 36 (by kernel_rfl)
      clear hw hF
      simp only [Oper.wp, execOp]
      go_simp
      exact hK _ x (by first | rfl | simp) (Below.refl _ _) (fun h => by cases h)
    · simp only [wpOp, List.getElem?_toArray, List.getElem?_cons_succ, List.getElem?_cons_zero, Region.wanted, if_true]
      refine Or.inl ?_
      have e0 : av.tmps.getD 68 undef = .bool true := hw 24 (by kernel_rfl)
      have e1 : av.tmps.getD 81 undef = .bool true := hw 37 (by kernel_rfl)
      clear hw hF
      simp only [Oper.wp, execOp]
      go_simp
      exact hK _ x (by first | rfl | simp) (Below.refl _ _) (fun h => by cases h)
    · simp only [wpOp, List.getElem?_toArray, List.getElem?_cons_succ, List.getElem?_cons_zero, Region.wanted, if_true]
      refine Or.inl ?_
      have e0 : av.tmps.getD 82 undef = .bool true := hw 38 (by kernel_rfl)
      clear hw hF
      simp only [Oper.wp, execOp]
      go_simp
      exact hK _ x (by first | rfl | simp) (Below.refl _ _) (fun h => by cases h)
    · simp only [wpOp, List.getElem?_toArray, List.getElem?_cons_succ, List.getElem?_cons_zero]
      have eg : av.tmps.getD 83 undef = .bool true := hw 39 (by kernel_rfl)
      refine ite_yes (wanted_yes rfl (yielded_of (t := 83) (by kernel_rfl) eg)) ?_
      clear eg
      refine Or.inl ?_
      have e0 : av.eval (.tmp 2) = .pointer (some ⟨w.heap.size, 0, none⟩) := hF.2.2 2 (by decide)
      have f0 := row_c (row_on B0.out hb) (i := 0) rfl
      have f1 := row_c (row_on B0.out hb) (i := 1) rfl
      clear hw hF
      simp only [Oper.wp, execOp]
      rw [e0]
      go_simp
      exact hK _ x (by first | rfl | simp) (Below.refl _ _) (fun h => by cases h)
    · simp only [wpOp, List.getElem?_toArray, List.getElem?_cons_succ, List.getElem?_cons_zero]
      have eg : av.tmps.getD 83 undef = .bool true := hw 39 (by kernel_rfl)
      refine ite_yes (wanted_yes rfl (yielded_of (t := 83) (by kernel_rfl) eg)) ?_
      clear eg
      refine Or.inl ?_
      have e0 : av.tmps.getD 84 undef = .agg #[.int .i64 next, .slice A2 zs.length c2] := hw 40 (by kernel_rfl)
      clear hw hF
      simp only [Oper.wp, execOp]
      go_simp
      refine (RG.out A2 c2 x (V3.out.below hb)).mono ?_
      rintro e y ⟨rfl, hbb⟩
      exact hK _ y rfl hbb (fun h => by cases h)
    · simp only [wpOp, List.getElem?_toArray, List.getElem?_cons_succ, List.getElem?_cons_zero]
      have eg : av.tmps.getD 83 undef = .bool true := hw 39 (by kernel_rfl)
      refine ite_yes (wanted_yes rfl (yielded_of (t := 83) (by kernel_rfl) eg)) ?_
      clear eg
      refine Or.inl ?_
      have e0 : av.eval (.tmp 2) = .pointer (some ⟨w.heap.size, 0, none⟩) := hF.2.2 2 (by decide)
      have f0 := row_c (row_on B0.out hb) (i := 0) rfl
      have f1 := row_c (row_on B0.out hb) (i := 1) rfl
      clear hw hF
      simp only [Oper.wp, execOp]
      rw [e0]
      go_simp
      exact hK _ x (by first | rfl | simp) (Below.refl _ _) (fun h => by cases h)
    · simp only [wpOp, List.getElem?_toArray, List.getElem?_cons_succ, List.getElem?_cons_zero]
      have eg : av.tmps.getD 83 undef = .bool true := hw 39 (by kernel_rfl)
      refine ite_yes (wanted_yes rfl (yielded_of (t := 83) (by kernel_rfl) eg)) ?_
      clear eg
      refine Or.inl ?_
      have e0 : av.tmps.getD 86 undef = .agg #[.int .i64 next, .slice A2 zs.length c2] := hw 42 (by kernel_rfl)
      clear hw hF
      simp only [Oper.wp, execOp]
      go_simp
      refine (RE.out A2 c2 x (V3.out.below hb)).mono ?_
      rintro e y ⟨A4, c4, rfl, hv, hbb, _⟩
      exact hK _ y ⟨A4, c4, rfl, hv⟩ hbb (fun h => by cases h)
    · simp only [wpOp, List.getElem?_toArray, List.getElem?_cons_succ, List.getElem?_cons_zero]
      have eg : av.tmps.getD 83 undef = .bool true := hw 39 (by kernel_rfl)
      refine ite_yes (wanted_yes rfl (yielded_of (t := 83) (by kernel_rfl) eg)) ?_
      clear eg
      refine Or.inl ?_
      obtain ⟨Ar, cr, e0, hv⟩ := hw 43 (by kernel_rfl)
      replace e0 : av.tmps.getD 87 undef = .agg #[.int .i64 next, .slice Ar zs.length cr] := e0
      clear hw hF
      simp only [Oper.wp, execOp]
      go_simp
      refine (RG2.out Ar cr x hv).mono ?_
      rintro e y ⟨rfl, hbb⟩
      exact hK _ y rfl hbb (fun h => by cases h)
    · simp only [wpOp, List.getElem?_toArray, List.getElem?_cons_succ, List.getElem?_cons_zero]
      have eg : av.tmps.getD 83 undef = .bool true := hw 39 (by kernel_rfl)
      refine ite_yes (wanted_yes rfl (yielded_of (t := 83) (by kernel_rfl) eg)) ?_
      clear eg
      refine Or.inl ?_
      have e0 : av.tmps.getD 85 undef = .bool rb := hw 41 (by kernel_rfl)
      have e1 : av.tmps.getD 88 undef = .bool rb := hw 44 (by kernel_rfl)
      clear hw hF
      simp only [Oper.wp, execOp]
      go_simp
      exact hK _ x (by first | rfl | simp) (Below.refl _ _) (fun h => by cases h)
    · simp only [wpOp, List.getElem?_toArray, List.getElem?_cons_succ, List.getElem?_cons_zero, Region.wanted, if_true]
      refine Or.inl ?_
      have e0 : av.tmps.getD 83 undef = .bool true := hw 39 (by kernel_rfl)
      have e1 : av.tmps.getD 89 undef = .bool true := hw 45 (by kernel_rfl)
      clear hw hF
      simp only [Oper.wp, execOp]
      go_simp
      exact hK _ x (by first | rfl | simp) (Below.refl _ _) (fun h => by cases h)
  · intro av x hF hb hR _
    obtain ⟨Ar, cr, e43, _⟩ := hR 43 (by decide)
    replace e43 : av.tmps.getD 87 undef = .agg #[.int .i64 next, .slice Ar zs.length cr] := e43
    have e0 : av.tmps.getD 44 undef = .bool true := hR 0 (by decide)
    have e1 : av.tmps.getD 45 undef = .bool true := hR 1 (by decide)
    have e2 : av.tmps.getD 46 undef = .string t := hR 2 (by decide)
    have e3 : av.tmps.getD 47 undef = .string t := hR 3 (by decide)
    have e4 : av.tmps.getD 48 undef = .bool true := hR 4 (by decide)
    have e5 : av.tmps.getD 49 undef = .bool true := hR 5 (by decide)
    have e6 : av.tmps.getD 50 undef = .bool true := hR 6 (by decide)
    have e7 : av.tmps.getD 51 undef = .bool false := hR 7 (by decide)
    have e8 : av.tmps.getD 52 undef = .bool false := hR 8 (by decide)
    have e9 : av.tmps.getD 53 undef = undef := hR 9 (by decide)
    have e10 : av.tmps.getD 54 undef = undef := hR 10 (by decide)
    have e11 : av.tmps.getD 55 undef = .bool false := hR 11 (by decide)
    have e12 : av.tmps.getD 56 undef = .bool false := hR 12 (by decide)
    have e13 : av.tmps.getD 57 undef = .bool false := hR 13 (by decide)
    have e14 : av.tmps.getD 58 undef = .bool true := hR 14 (by decide)
    have e15 : av.tmps.getD 59 undef = .bool true := hR 15 (by decide)
    have e16 : av.tmps.getD 60 undef = .int .i64 1 := hR 16 (by decide)
    have e17 : av.tmps.getD 61 undef = .bool true := hR 17 (by decide)
    have e18 : av.tmps.getD 62 undef = .bool true := hR 18 (by decide)
    have e19 : av.tmps.getD 63 undef = .bool true := hR 19 (by decide)
    have e20 : av.tmps.getD 64 undef = .bool true := hR 20 (by decide)
    have e21 : av.tmps.getD 65 undef = .bool true := hR 21 (by decide)
    have e22 : av.tmps.getD 66 undef = .bool true := hR 22 (by decide)
    have e23 : av.tmps.getD 67 undef = .bool true := hR 23 (by decide)
    have e24 : av.tmps.getD 68 undef = .bool true := hR 24 (by decide)
    have e25 : av.tmps.getD 69 undef = .bool false := hR 25 (by decide)
    have e26 : av.tmps.getD 70 undef = .bool false := hR 26 (by decide)
    have e27 : av.tmps.getD 71 undef = undef := hR 27 (by decide)
    have e28 : av.tmps.getD 72 undef = undef := hR 28 (by decide)
    have e29 : av.tmps.getD 73 undef = .bool false := hR 29 (by decide)
    have e30 : av.tmps.getD 74 undef = .bool false := hR 30 (by decide)
    have e31 : av.tmps.getD 75 undef = .bool false := hR 31 (by decide)
    have e32 : av.tmps.getD 76 undef = .bool true := hR 32 (by decide)
    have e33 : av.tmps.getD 77 undef = .bool true := hR 33 (by decide)
    have e34 : av.tmps.getD 78 undef = .int .i64 2 := hR 34 (by decide)
    have e35 : av.tmps.getD 79 undef = .bool true := hR 35 (by decide)
    have e36 : av.tmps.getD 80 undef = .bool true := hR 36 (by decide)
    have e37 : av.tmps.getD 81 undef = .bool true := hR 37 (by decide)
    have e38 : av.tmps.getD 82 undef = .bool true := hR 38 (by decide)
    have e39 : av.tmps.getD 83 undef = .bool true := hR 39 (by decide)
    have e40 : av.tmps.getD 84 undef = .agg #[.int .i64 next, .slice A2 zs.length c2] := hR 40 (by decide)
    have e41 : av.tmps.getD 85 undef = .bool rb := hR 41 (by decide)
    have e42 : av.tmps.getD 86 undef = .agg #[.int .i64 next, .slice A2 zs.length c2] := hR 42 (by decide)
    have e44 : av.tmps.getD 88 undef = .bool rb := hR 44 (by decide)
    have e45 : av.tmps.getD 89 undef = .bool true := hR 45 (by decide)
    have e46 : av.tmps.getD 90 undef = .bool true := hR 46 (by decide)
    rw [hF.fold (by kernel_rfl)]
    simp only [List.foldl_cons, List.foldl_nil, e0, e1, e2, e3, e4, e5, e6, e7, e8, e9, e10, e11, e12, e13, e14, e15, e16, e17, e18, e19, e20, e21, e22, e23, e24, e25, e26, e27, e28, e29, e30, e31, e32, e33, e34, e35, e36, e37, e38, e39, e40, e41, e42, e43, e44, e45, e46]
    simp only [Act.put, List.setIfInBounds_toArray, List.set_cons_zero, List.set_cons_succ]
    change wpOps _ _ _ [47] _ _
    simp only [wpOps_cons]
    clear e0 e1 e2 e3 e4 e5 e6 e7 e8 e9 e10 e11 e12 e13 e14 e15 e16 e17 e18 e19 e20 e21 e22 e23 e24 e25 e26 e27 e28 e29 e30 e31 e32 e33 e34 e35 e36 e37 e38 e39 e40 e41 e42 e43 e44 e45 e46 hR hF
    have HE := Lib.hid hb
    clear hb
    simp only [wpOp, List.getElem?_toArray, List.getElem?_cons_succ, List.getElem?_cons_zero, Region.wanted, if_true]
    refine Or.inl ?_
    simp only [Oper.wp, execOp]
    go_simp
    try simp only [wpOps]
    go_wp2
    go_ret
    exact ⟨rfl, KK.out.trans (HE.out.mono KK.out.size)⟩
theorem bytes_any (next : Int) (A : Option Addr) (c : Nat) (vs : List (Int × Int)) (S : List UInt8) (w : World) (h : Vs w A c vs) (hS : S.length ≤ 1048576) :
    Calls Try.prog 3 #[.agg #[.int .i64 next, .slice A vs.length c], .string ⟨S.toArray⟩] w fun e w' => e = .returned (.bool true) ∧ Below w.heap.size w w' := by
  obtain ⟨t, eb, ee, he, hE1, hE2⟩ := enc_both next (vs.take 15) (by rw [List.length_take]; omega)
  obtain ⟨N2, L2, db, de, hd, l2, hD1, hD2⟩ := dec_both S hS
  rcases he with ⟨rfl, rfl⟩ | ⟨rfl, rfl⟩ <;> rcases hd with ⟨rfl, rfl⟩ | ⟨rfl, rfl⟩
  · exact bytes_yy next A c vs S w h _ rfl t N2 L2 l2 hE1 hE2 hD1 hD2
  · exact bytes_yn next A c vs S w h _ rfl t N2 L2 l2 hE1 hE2 hD1 hD2
  · exact bytes_ny next A c vs S w h _ rfl t N2 L2 l2 hE1 hE2 hD1 hD2
  · exact bytes_nn next A c vs S w h _ rfl t N2 L2 l2 hE1 hE2 hD1 hD2
end Go.Proofs.Ytlfjopjfolbmiaa
