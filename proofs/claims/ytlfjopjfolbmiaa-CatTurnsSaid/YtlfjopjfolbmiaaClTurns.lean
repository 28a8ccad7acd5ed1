/-
  astrolabelaw23.CatTurns: a version is found, one is added, one is left out, as the document says it.
-/
import Derived.Test.YtlfjopjfolbmiaaCx
import Derived.Test.YtlfjopjfolbmiaaCj
namespace Go.Proofs.Ytlfjopjfolbmiaa
open Go.RowKit
theorem find_both (next : Int) (vs : List (Int × Int)) (n : Int) (hl : vs.length ≤ 50000) : ∃ (fi : Int) (fb : Bool), (∀ A c V, Vs V A c vs → Calls Try.prog 17 #[.agg #[.int .i64 next, .slice A vs.length c], .int .i64 n] V fun e w' => e = .returned (.tuple #[.int .i64 fi, .bool fb]) ∧ Below V.heap.size V w') ∧ (∀ A c V, Vs V A c vs → Calls Try.prog 18 #[.agg #[.int .i64 next, .slice A vs.length c], .int .i64 n] V fun e w' => e = .returned (.tuple #[.int .i64 fi, .bool fb]) ∧ Below V.heap.size V w') := by
  have hl' : vs.length ≤ 1000000 := by omega
  rcases hf : findP vs n with _ | k
  · exact ⟨0, false, fun A c V hV => find_none next A c vs n V hV hl' hf, fun A c V hV => rfind_none next A c vs n V hV hl' hf⟩
  · exact ⟨k, true, fun A c V hV => find_some next A c vs n k V hV hl' hf, fun A c V hV => rfind_some next A c vs n k V hV hl' hf⟩
theorem with_both (next : Int) (vs : List (Int × Int)) (r : Int) (hl : vs.length ≤ 50000) : ∃ (N2 : Int) (L2 : List (Int × Int)) (b2 : Bool), L2.length ≤ 100000 ∧ (∀ A c V, Vs V A c vs → Calls Try.prog 19 #[.agg #[.int .i64 next, .slice A vs.length c], .int .i64 r] V fun e w' => ∃ A' c', e = .returned (.tuple #[.agg #[.int .i64 N2, .slice A' L2.length c'], .bool b2]) ∧ Vs w' A' c' L2 ∧ Below V.heap.size V w') ∧ (∀ A c V, Vs V A c vs → Calls Try.prog 20 #[.agg #[.int .i64 next, .slice A vs.length c], .int .i64 r] V fun e w' => ∃ A' c', e = .returned (.tuple #[.agg #[.int .i64 N2, .slice A' L2.length c'], .bool b2]) ∧ Vs w' A' c' L2 ∧ Below V.heap.size V w') := by
  have hl' : vs.length ≤ 1000000 := by omega
  cases hb : withB next vs r
  · exact ⟨0, [], false, by simp, fun A c V hV => (with_no next A c vs r V hV hl' hb).mono fun e w' ⟨h1, h2⟩ => ⟨none, 0, h1, Vs.nil_ _ _, h2⟩, fun A c V hV => (rwith_no next A c vs r V hV hl' hb).mono fun e w' ⟨h1, h2⟩ => ⟨none, 0, h1, Vs.nil_ _ _, h2⟩⟩
  · exact ⟨next + 1, vs ++ [(next, r)], true, by simp; omega, fun A c V hV => (with_yes next A c vs r V hV hb).mono fun e w' ⟨A', c', h1, h2, h3, _⟩ => ⟨A', c', h1, h2, h3⟩, fun A c V hV => (rwith_yes next A c vs r V hV hb).mono fun e w' ⟨A', c', h1, h2, h3, _⟩ => ⟨A', c', h1, h2, h3⟩⟩
theorem out_both (next : Int) (vs : List (Int × Int)) (n : Int) (hl : vs.length ≤ 50000) : ∃ (N2 : Int) (L2 : List (Int × Int)) (b2 : Bool), L2.length ≤ 100000 ∧ (∀ A c V, Vs V A c vs → Calls Try.prog 21 #[.agg #[.int .i64 next, .slice A vs.length c], .int .i64 n] V fun e w' => ∃ A' c', e = .returned (.tuple #[.agg #[.int .i64 N2, .slice A' L2.length c'], .bool b2]) ∧ Vs w' A' c' L2 ∧ Below V.heap.size V w') ∧ (∀ A c V, Vs V A c vs → Calls Try.prog 22 #[.agg #[.int .i64 next, .slice A vs.length c], .int .i64 n] V fun e w' => ∃ A' c', e = .returned (.tuple #[.agg #[.int .i64 N2, .slice A' L2.length c'], .bool b2]) ∧ Vs w' A' c' L2 ∧ Below V.heap.size V w') := by
  have hl' : vs.length ≤ 1000000 := by omega
  rcases ho : outP next vs n with _ | i
  · exact ⟨0, [], false, by simp, fun A c V hV => (out_no next A c vs n V hV hl' ho).mono fun e w' ⟨h1, h2⟩ => ⟨none, 0, h1, Vs.nil_ _ _, h2⟩, fun A c V hV => (rout_no next A c vs n V hV hl' ho).mono fun e w' ⟨h1, h2⟩ => ⟨none, 0, h1, Vs.nil_ _ _, h2⟩⟩
  · obtain ⟨h1, h2, h3, h4⟩ := outP_some ho
    exact ⟨next, cutAt vs i, true, by unfold cutAt; rw [List.length_append, List.length_take, List.length_drop]; omega, fun A c V hV => (out_yes next A c vs n V hV i h1 h2 h3 h4).mono fun e w' ⟨A', c', h1, h2, h3, _⟩ => ⟨A', c', h1, h2, h3⟩, fun A c V hV => (rout_yes next A c vs n V hV i h1 h2 h3 h4).mono fun e w' ⟨A', c', h1, h2, h3, _⟩ => ⟨A', c', h1, h2, h3⟩⟩
set_option maxHeartbeats 8000000 in
set_option maxRecDepth 100000 in
theorem turns_any (next : Int) (A : Option Addr) (c : Nat) (vs : List (Int × Int)) (n r : Int) (w : World) (h : Vs w A c vs) :
    Calls Try.prog 4 #[.agg #[.int .i64 next, .slice A vs.length c], .int .i64 n, .int .i64 r] w fun e w' => e = .returned (.bool true) ∧ Below w.heap.size w w' := by
  have H := Lib.hid h
  obtain ⟨zs, hz⟩ : ∃ zs, vs.take 15 = zs := ⟨_, rfl⟩
  have FW := Lib.hid (fun V (hV : Vs V A c vs) => few_any next A c vs V hV)
  have lz : zs.length ≤ 15 := by rw [← hz, List.length_take]; omega
  rw [hz] at FW
  obtain ⟨fi, fb, hF1, hF2⟩ := find_both next zs n (by omega)
  obtain ⟨N2, L2, b2, l2, hW1, hW2⟩ := with_both next zs r (by omega)
  obtain ⟨N3, L3, b3, l3, hO1, hO2⟩ := out_both next zs n (by omega)
  have FI1 := Lib.hid hF1
  have FI2 := Lib.hid hF2
  have WI1 := Lib.hid hW1
  have WI2 := Lib.hid hW2
  have WO1 := Lib.hid hO1
  have WO2 := Lib.hid hO2
  have RE := Lib.hid (fun A c V (hV : Vs V A c zs) => ref_any next A c zs V hV (by omega))
  have LI1 := Lib.hid (fun A B c d V (h1 : Vs V A c zs) (h2 : Vs V B d zs) => lists_any next A B c d zs V h1 h2 (by omega))
  have LI2 := Lib.hid (fun A B c d V (h1 : Vs V A c L2) (h2 : Vs V B d L2) => lists_any N2 A B c d L2 V h1 h2 l2)
  have LI3 := Lib.hid (fun A B c d V (h1 : Vs V A c L3) (h2 : Vs V B d L3) => lists_any N3 A B c d L3 V h1 h2 l3)
  have e1 : (fi == fi) = true := beq_self_eq_true fi
  have e2 : (fb == fb) = true := by cases fb <;> rfl
  have e3 : (b2 == b2) = true := by cases b2 <;> rfl
  have e4 : (b3 == b3) = true := by cases b3 <;> rfl
  clear h hz hF1 hF2 hW1 hW2 hO1 hO2 l2 l3
  go_enter Try.func4, Try.ntmps4
  go_wp2_with fail
  refine (examples_any _).mono ?_
  rintro e w1 ⟨rfl, hb⟩
  have K1 := Lib.hid (bon (bda w (.cells #[.int .i64 next, .slice A vs.length c] 24)) hb)
  have R1 := Lib.hid (row_on (heap_alloc_new w (.cells #[.int .i64 next, .slice A vs.length c] 24)) hb)
  clear hb
  have f0 := row_c R1.out (i := 0) rfl
  have f1 := row_c R1.out (i := 1) rfl
  go_wp2_with fail
  refine (FW.out _ (H.out.below K1.out)).mono ?_
  rintro e w2 ⟨A2, c2, rfl, hv, hb, hf⟩
  have r2 := row_on R1.out hb
  have q0 := row_c r2 (i := 0) rfl
  have q1 := row_c r2 (i := 1) rfl
  have z0 := frozen_of_row _ _ 0 _ _ r2
  have z1 := frozen_of_row _ _ 1 _ _ r2
  obtain ⟨w3, hw3⟩ : ∃ W : World, W = (w2.setCell ⟨w.heap.size, 0, none⟩ (.int .i64 next)).setCell ⟨w.heap.size, 1, none⟩ (.slice A2 zs.length c2) := ⟨_, rfl⟩
  have HW := Lib.hid hw3
  have s1 : w.heap.size < w1.heap.size := heap_lt R1.out
  have V3 := Lib.hid (show Vs w3 A2 c2 zs by rw [hw3]; exact (hv.set hf s1 _ _).set hf s1 _ _)
  have K3 := Lib.hid (show Below w.heap.size w w3 by rw [hw3]; exact ((bon K1.out hb).setCell (Nat.le_refl _) _).setCell (Nat.le_refl _) _)
  have R3 := Lib.hid (show w3.heap[w.heap.size]? = some (.cells #[.int .i64 next, .slice A2 zs.length c2] 24) by
    rw [hw3]
    have e1 := heap_setCell_same w2 w.heap.size 0 _ _ (.int .i64 next) r2
    exact heap_setCell_same _ w.heap.size 1 _ _ (.slice A2 zs.length c2) e1)
  clear hb hv hf f0 f1 r2 hw3
  go_upto_region 5 with (fail)
  rw [← HW.out]
  clear q0 q1 z0 z1 HW
  have f0 : w3.cell? ⟨w.heap.size, 0, none⟩ = some (.int .i64 next) := row_c R3.out (i := 0) rfl
  have f1 : w3.cell? ⟨w.heap.size, 1, none⟩ = some (.slice A2 zs.length c2) := row_c R3.out (i := 1) rfl
  have B0 := R3
  clear f0 f1
  have B0a := row_c B0.out (i := 0) rfl
  have B0b := row_c B0.out (i := 1) rfl
  go_wp2_with fail
  refine (RE.out A2 c2 _ V3.out).mono ?_
  rintro e w4 ⟨A4, c4, rfl, hv, hb, _⟩
  clear B0a B0b
  have Kw4 := Lib.hid (K3.out.trans (hb.mono K3.out.size))
  have B0 := Lib.hid (row_on B0.out hb)
  have V3 := Lib.hid (V3.out.below hb)
  have V4 := Lib.hid hv
  clear hv hb
  have B0a := row_c B0.out (i := 0) rfl
  have B0b := row_c B0.out (i := 1) rfl
  go_upto_region 6 with (fail)
  clear B0a B0b
  obtain ⟨u4, hu4⟩ : ∃ U : World, U = w4.alloc (.cells #[.int .i64 next, .slice A4 zs.length c4] 34) := ⟨_, rfl⟩
  have B1 := Lib.hid (show u4.heap[w4.heap.size]? = some (.cells #[.int .i64 next, .slice A4 zs.length c4] 34) by rw [hu4]; exact heap_alloc_new _ _)
  have hb : Below w4.heap.size w4 u4 := by rw [hu4]; exact bda _ _
  rw [← hu4]
  clear hu4
  have Ku4 := Lib.hid (Kw4.out.trans (hb.mono Kw4.out.size))
  have B0 := Lib.hid (row_on B0.out hb)
  have V3 := Lib.hid (V3.out.below hb)
  have V4 := Lib.hid (V4.out.below hb)
  clear hb
  have B0a := row_c B0.out (i := 0) rfl
  have B0b := row_c B0.out (i := 1) rfl
  have B1a := row_c B1.out (i := 0) rfl
  have B1b := row_c B1.out (i := 1) rfl
  go_wp2_with fail
  refine (FI1.out A2 c2 _ V3.out).mono ?_
  rintro e w5 ⟨rfl, hb⟩
  clear B0a B0b B1a B1b
  have Kw5 := Lib.hid (Ku4.out.trans (hb.mono Ku4.out.size))
  have B0 := Lib.hid (row_on B0.out hb)
  have B1 := Lib.hid (row_on B1.out hb)
  have V3 := Lib.hid (V3.out.below hb)
  have V4 := Lib.hid (V4.out.below hb)
  clear hb
  have B0a := row_c B0.out (i := 0) rfl
  have B0b := row_c B0.out (i := 1) rfl
  have B1a := row_c B1.out (i := 0) rfl
  have B1b := row_c B1.out (i := 1) rfl
  go_wp2_with fail
  refine (FI2.out A4 c4 _ V4.out).mono ?_
  rintro e w6 ⟨rfl, hb⟩
  clear B0a B0b B1a B1b
  have Kw6 := Lib.hid (Kw5.out.trans (hb.mono Kw5.out.size))
  have B0 := Lib.hid (row_on B0.out hb)
  have B1 := Lib.hid (row_on B1.out hb)
  have V3 := Lib.hid (V3.out.below hb)
  have V4 := Lib.hid (V4.out.below hb)
  clear hb
  have B0a := row_c B0.out (i := 0) rfl
  have B0b := row_c B0.out (i := 1) rfl
  have B1a := row_c B1.out (i := 0) rfl
  have B1b := row_c B1.out (i := 1) rfl
  go_wp2_with fail
  refine (WI1.out A2 c2 _ V3.out).mono ?_
  rintro e w7 ⟨A7, c7, rfl, hv, hb⟩
  clear B0a B0b B1a B1b
  have Kw7 := Lib.hid (Kw6.out.trans (hb.mono Kw6.out.size))
  have B0 := Lib.hid (row_on B0.out hb)
  have B1 := Lib.hid (row_on B1.out hb)
  have V3 := Lib.hid (V3.out.below hb)
  have V4 := Lib.hid (V4.out.below hb)
  have V7 := Lib.hid hv
  clear hv hb
  have B0a := row_c B0.out (i := 0) rfl
  have B0b := row_c B0.out (i := 1) rfl
  have B1a := row_c B1.out (i := 0) rfl
  have B1b := row_c B1.out (i := 1) rfl
  go_upto_region 9 with (fail)
  clear B0a B0b B1a B1b
  obtain ⟨u7, hu7⟩ : ∃ U : World, U = w7.alloc (.cells #[.int .i64 N2, .slice A7 L2.length c7] 24) := ⟨_, rfl⟩
  have B2 := Lib.hid (show u7.heap[w7.heap.size]? = some (.cells #[.int .i64 N2, .slice A7 L2.length c7] 24) by rw [hu7]; exact heap_alloc_new _ _)
  have hb : Below w7.heap.size w7 u7 := by rw [hu7]; exact bda _ _
  rw [← hu7]
  clear hu7
  have Ku7 := Lib.hid (Kw7.out.trans (hb.mono Kw7.out.size))
  have B0 := Lib.hid (row_on B0.out hb)
  have B1 := Lib.hid (row_on B1.out hb)
  have V3 := Lib.hid (V3.out.below hb)
  have V4 := Lib.hid (V4.out.below hb)
  have V7 := Lib.hid (V7.out.below hb)
  clear hb
  have B0a := row_c B0.out (i := 0) rfl
  have B0b := row_c B0.out (i := 1) rfl
  have B1a := row_c B1.out (i := 0) rfl
  have B1b := row_c B1.out (i := 1) rfl
  have B2a := row_c B2.out (i := 0) rfl
  have B2b := row_c B2.out (i := 1) rfl
  go_wp2_with fail
  refine (WI2.out A4 c4 _ V4.out).mono ?_
  rintro e w8 ⟨A8, c8, rfl, hv, hb⟩
  clear B0a B0b B1a B1b B2a B2b
  have Kw8 := Lib.hid (Ku7.out.trans (hb.mono Ku7.out.size))
  have B0 := Lib.hid (row_on B0.out hb)
  have B1 := Lib.hid (row_on B1.out hb)
  have B2 := Lib.hid (row_on B2.out hb)
  have V3 := Lib.hid (V3.out.below hb)
  have V4 := Lib.hid (V4.out.below hb)
  have V7 := Lib.hid (V7.out.below hb)
  have V8 := Lib.hid hv
  clear hv hb
  have B0a := row_c B0.out (i := 0) rfl
  have B0b := row_c B0.out (i := 1) rfl
  have B1a := row_c B1.out (i := 0) rfl
  have B1b := row_c B1.out (i := 1) rfl
  have B2a := row_c B2.out (i := 0) rfl
  have B2b := row_c B2.out (i := 1) rfl
  go_upto_region 10 with (fail)
  clear B0a B0b B1a B1b B2a B2b
  obtain ⟨u8, hu8⟩ : ∃ U : World, U = w8.alloc (.cells #[.int .i64 N2, .slice A8 L2.length c8] 34) := ⟨_, rfl⟩
  have B3 := Lib.hid (show u8.heap[w8.heap.size]? = some (.cells #[.int .i64 N2, .slice A8 L2.length c8] 34) by rw [hu8]; exact heap_alloc_new _ _)
  have hb : Below w8.heap.size w8 u8 := by rw [hu8]; exact bda _ _
  rw [← hu8]
  clear hu8
  have Ku8 := Lib.hid (Kw8.out.trans (hb.mono Kw8.out.size))
  have B0 := Lib.hid (row_on B0.out hb)
  have B1 := Lib.hid (row_on B1.out hb)
  have B2 := Lib.hid (row_on B2.out hb)
  have V3 := Lib.hid (V3.out.below hb)
  have V4 := Lib.hid (V4.out.below hb)
  have V7 := Lib.hid (V7.out.below hb)
  have V8 := Lib.hid (V8.out.below hb)
  clear hb
  have B0a := row_c B0.out (i := 0) rfl
  have B0b := row_c B0.out (i := 1) rfl
  have B1a := row_c B1.out (i := 0) rfl
  have B1b := row_c B1.out (i := 1) rfl
  have B2a := row_c B2.out (i := 0) rfl
  have B2b := row_c B2.out (i := 1) rfl
  have B3a := row_c B3.out (i := 0) rfl
  have B3b := row_c B3.out (i := 1) rfl
  go_wp2_with fail
  refine (WO1.out A2 c2 _ V3.out).mono ?_
  rintro e w9 ⟨A9, c9, rfl, hv, hb⟩
  clear B0a B0b B1a B1b B2a B2b B3a B3b
  have Kw9 := Lib.hid (Ku8.out.trans (hb.mono Ku8.out.size))
  have B0 := Lib.hid (row_on B0.out hb)
  have B1 := Lib.hid (row_on B1.out hb)
  have B2 := Lib.hid (row_on B2.out hb)
  have B3 := Lib.hid (row_on B3.out hb)
  have V3 := Lib.hid (V3.out.below hb)
  have V4 := Lib.hid (V4.out.below hb)
  have V7 := Lib.hid (V7.out.below hb)
  have V8 := Lib.hid (V8.out.below hb)
  have V9 := Lib.hid hv
  clear hv hb
  have B0a := row_c B0.out (i := 0) rfl
  have B0b := row_c B0.out (i := 1) rfl
  have B1a := row_c B1.out (i := 0) rfl
  have B1b := row_c B1.out (i := 1) rfl
  have B2a := row_c B2.out (i := 0) rfl
  have B2b := row_c B2.out (i := 1) rfl
  have B3a := row_c B3.out (i := 0) rfl
  have B3b := row_c B3.out (i := 1) rfl
  go_upto_region 11 with (fail)
  clear B0a B0b B1a B1b B2a B2b B3a B3b
  obtain ⟨u9, hu9⟩ : ∃ U : World, U = w9.alloc (.cells #[.int .i64 N3, .slice A9 L3.length c9] 24) := ⟨_, rfl⟩
  have B4 := Lib.hid (show u9.heap[w9.heap.size]? = some (.cells #[.int .i64 N3, .slice A9 L3.length c9] 24) by rw [hu9]; exact heap_alloc_new _ _)
  have hb : Below w9.heap.size w9 u9 := by rw [hu9]; exact bda _ _
  rw [← hu9]
  clear hu9
  have Ku9 := Lib.hid (Kw9.out.trans (hb.mono Kw9.out.size))
  have B0 := Lib.hid (row_on B0.out hb)
  have B1 := Lib.hid (row_on B1.out hb)
  have B2 := Lib.hid (row_on B2.out hb)
  have B3 := Lib.hid (row_on B3.out hb)
  have V3 := Lib.hid (V3.out.below hb)
  have V4 := Lib.hid (V4.out.below hb)
  have V7 := Lib.hid (V7.out.below hb)
  have V8 := Lib.hid (V8.out.below hb)
  have V9 := Lib.hid (V9.out.below hb)
  clear hb
  have B0a := row_c B0.out (i := 0) rfl
  have B0b := row_c B0.out (i := 1) rfl
  have B1a := row_c B1.out (i := 0) rfl
  have B1b := row_c B1.out (i := 1) rfl
  have B2a := row_c B2.out (i := 0) rfl
  have B2b := row_c B2.out (i := 1) rfl
  have B3a := row_c B3.out (i := 0) rfl
  have B3b := row_c B3.out (i := 1) rfl
  have B4a := row_c B4.out (i := 0) rfl
  have B4b := row_c B4.out (i := 1) rfl
  go_wp2_with fail
  refine (WO2.out A4 c4 _ V4.out).mono ?_
  rintro e x1 ⟨Ax, cx, rfl, hv, hb⟩
  clear B0a B0b B1a B1b B2a B2b B3a B3b B4a B4b
  have Kx1 := Lib.hid (Ku9.out.trans (hb.mono Ku9.out.size))
  have B0 := Lib.hid (row_on B0.out hb)
  have B1 := Lib.hid (row_on B1.out hb)
  have B2 := Lib.hid (row_on B2.out hb)
  have B3 := Lib.hid (row_on B3.out hb)
  have B4 := Lib.hid (row_on B4.out hb)
  have V3 := Lib.hid (V3.out.below hb)
  have V4 := Lib.hid (V4.out.below hb)
  have V7 := Lib.hid (V7.out.below hb)
  have V8 := Lib.hid (V8.out.below hb)
  have V9 := Lib.hid (V9.out.below hb)
  have Vx := Lib.hid hv
  clear hv hb
  have B0a := row_c B0.out (i := 0) rfl
  have B0b := row_c B0.out (i := 1) rfl
  have B1a := row_c B1.out (i := 0) rfl
  have B1b := row_c B1.out (i := 1) rfl
  have B2a := row_c B2.out (i := 0) rfl
  have B2b := row_c B2.out (i := 1) rfl
  have B3a := row_c B3.out (i := 0) rfl
  have B3b := row_c B3.out (i := 1) rfl
  have B4a := row_c B4.out (i := 0) rfl
  have B4b := row_c B4.out (i := 1) rfl
  go_upto_region 12 with (fail)
  clear B0a B0b B1a B1b B2a B2b B3a B3b B4a B4b
  obtain ⟨y1, hy1⟩ : ∃ U : World, U = x1.alloc (.cells #[.int .i64 N3, .slice Ax L3.length cx] 34) := ⟨_, rfl⟩
  have B5 := Lib.hid (show y1.heap[x1.heap.size]? = some (.cells #[.int .i64 N3, .slice Ax L3.length cx] 34) by rw [hy1]; exact heap_alloc_new _ _)
  have hb : Below x1.heap.size x1 y1 := by rw [hy1]; exact bda _ _
  rw [← hy1]
  clear hy1
  have Ky1 := Lib.hid (Kx1.out.trans (hb.mono Kx1.out.size))
  have B0 := Lib.hid (row_on B0.out hb)
  have B1 := Lib.hid (row_on B1.out hb)
  have B2 := Lib.hid (row_on B2.out hb)
  have B3 := Lib.hid (row_on B3.out hb)
  have B4 := Lib.hid (row_on B4.out hb)
  have V3 := Lib.hid (V3.out.below hb)
  have V4 := Lib.hid (V4.out.below hb)
  have V7 := Lib.hid (V7.out.below hb)
  have V8 := Lib.hid (V8.out.below hb)
  have V9 := Lib.hid (V9.out.below hb)
  have Vx := Lib.hid (Vx.out.below hb)
  clear hb
  have B0a := row_c B0.out (i := 0) rfl
  have B0b := row_c B0.out (i := 1) rfl
  have B1a := row_c B1.out (i := 0) rfl
  have B1b := row_c B1.out (i := 1) rfl
  have B2a := row_c B2.out (i := 0) rfl
  have B2b := row_c B2.out (i := 1) rfl
  have B3a := row_c B3.out (i := 0) rfl
  have B3b := row_c B3.out (i := 1) rfl
  have B4a := row_c B4.out (i := 0) rfl
  have B4b := row_c B4.out (i := 1) rfl
  have B5a := row_c B5.out (i := 0) rfl
  have B5b := row_c B5.out (i := 1) rfl
  go_wp2_with fail
  refine (LI2.out A7 A8 c7 c8 _ V7.out V8.out).mono ?_
  rintro e x2 ⟨rfl, hb⟩
  clear B0a B0b B1a B1b B2a B2b B3a B3b B4a B4b B5a B5b
  have Kx2 := Lib.hid (Ky1.out.trans (hb.mono Ky1.out.size))
  have B0 := Lib.hid (row_on B0.out hb)
  have B1 := Lib.hid (row_on B1.out hb)
  have B2 := Lib.hid (row_on B2.out hb)
  have B3 := Lib.hid (row_on B3.out hb)
  have B4 := Lib.hid (row_on B4.out hb)
  have B5 := Lib.hid (row_on B5.out hb)
  have V3 := Lib.hid (V3.out.below hb)
  have V4 := Lib.hid (V4.out.below hb)
  have V7 := Lib.hid (V7.out.below hb)
  have V8 := Lib.hid (V8.out.below hb)
  have V9 := Lib.hid (V9.out.below hb)
  have Vx := Lib.hid (Vx.out.below hb)
  clear hb
  have B0a := row_c B0.out (i := 0) rfl
  have B0b := row_c B0.out (i := 1) rfl
  have B1a := row_c B1.out (i := 0) rfl
  have B1b := row_c B1.out (i := 1) rfl
  have B2a := row_c B2.out (i := 0) rfl
  have B2b := row_c B2.out (i := 1) rfl
  have B3a := row_c B3.out (i := 0) rfl
  have B3b := row_c B3.out (i := 1) rfl
  have B4a := row_c B4.out (i := 0) rfl
  have B4b := row_c B4.out (i := 1) rfl
  have B5a := row_c B5.out (i := 0) rfl
  have B5b := row_c B5.out (i := 1) rfl
  go_wp2_with fail
  refine (LI3.out A9 Ax c9 cx _ V9.out Vx.out).mono ?_
  rintro e x3 ⟨rfl, hb⟩
  clear B0a B0b B1a B1b B2a B2b B3a B3b B4a B4b B5a B5b
  have Kx3 := Lib.hid (Kx2.out.trans (hb.mono Kx2.out.size))
  have B0 := Lib.hid (row_on B0.out hb)
  have B1 := Lib.hid (row_on B1.out hb)
  have B2 := Lib.hid (row_on B2.out hb)
  have B3 := Lib.hid (row_on B3.out hb)
  have B4 := Lib.hid (row_on B4.out hb)
  have B5 := Lib.hid (row_on B5.out hb)
  have V3 := Lib.hid (V3.out.below hb)
  have V4 := Lib.hid (V4.out.below hb)
  have V7 := Lib.hid (V7.out.below hb)
  have V8 := Lib.hid (V8.out.below hb)
  have V9 := Lib.hid (V9.out.below hb)
  have Vx := Lib.hid (Vx.out.below hb)
  clear hb
  have B0a := row_c B0.out (i := 0) rfl
  have B0b := row_c B0.out (i := 1) rfl
  have B1a := row_c B1.out (i := 0) rfl
  have B1b := row_c B1.out (i := 1) rfl
  have B2a := row_c B2.out (i := 0) rfl
  have B2b := row_c B2.out (i := 1) rfl
  have B3a := row_c B3.out (i := 0) rfl
  have B3b := row_c B3.out (i := 1) rfl
  have B4a := row_c B4.out (i := 0) rfl
  have B4b := row_c B4.out (i := 1) rfl
  have B5a := row_c B5.out (i := 0) rfl
  have B5b := row_c B5.out (i := 1) rfl
  go_wp2_with fail
  refine (LI1.out A2 A4 c2 c4 _ V3.out V4.out).mono ?_
  rintro e x4 ⟨rfl, hb⟩
  clear B0a B0b B1a B1b B2a B2b B3a B3b B4a B4b B5a B5b
  have Kx4 := Lib.hid (Kx3.out.trans (hb.mono Kx3.out.size))
  have B0 := Lib.hid (row_on B0.out hb)
  have B1 := Lib.hid (row_on B1.out hb)
  have B2 := Lib.hid (row_on B2.out hb)
  have B3 := Lib.hid (row_on B3.out hb)
  have B4 := Lib.hid (row_on B4.out hb)
  have B5 := Lib.hid (row_on B5.out hb)
  have V3 := Lib.hid (V3.out.below hb)
  have V4 := Lib.hid (V4.out.below hb)
  have V7 := Lib.hid (V7.out.below hb)
  have V8 := Lib.hid (V8.out.below hb)
  have V9 := Lib.hid (V9.out.below hb)
  have Vx := Lib.hid (Vx.out.below hb)
  clear hb
  go_wp2
  go_ret
  exact ⟨rfl, Kx4.out⟩
end Go.Proofs.Ytlfjopjfolbmiaa
