/-
  The document's Without, granted.
-/
import Derived.Test.YtlfjopjfolbmiaaCt
namespace Go.Proofs.Ytlfjopjfolbmiaa
open Go.RowKit
set_option maxHeartbeats 4000000 in
set_option maxRecDepth 100000 in
theorem rout_yes (next : Int) (A : Option Addr) (c : Nat) (vs : List (Int × Int)) (n : Int) (w : World) (h : Vs w A c vs) (i : Nat) (hf : findP vs n = some i) (hr : rightB next vs = true) (hz : n ≠ 0) (hi : i + 1 < vs.length) :
    Calls Try.prog 22 #[.agg #[.int .i64 next, .slice A vs.length c], .int .i64 n] w fun e w' => ∃ A' c', e = .returned (.tuple #[.agg #[.int .i64 next, .slice A' (cutAt vs i).length c'], .bool true]) ∧ Vs w' A' c' (cutAt vs i) ∧ Below w.heap.size w w' ∧ Fr w.heap.size A' := by
  have hl : vs.length ≤ 1000000 := by have := (right_all hr).2.2.1; omega
  have l12 := (right_all hr).2.2.1
  have FD := Lib.hid (fun V (hV : Vs V A c vs) => rfind_some next A c vs n i V hV hl hf)
  clear hf
  have RG := Lib.hid (fun V (hV : Vs V A c vs) => rright_any next A c vs V hV hl)
  rw [hr] at RG
  clear hr
  have d0 : (n == 0) = false := by simpa using hz
  have d1 : ((i : Int) == (vs.length : Int) - 1) = false := beq_eq_false_iff_ne.2 (by omega)
  obtain ⟨b, off, hA, _, _⟩ := h.2 (by omega)
  subst hA
  have hcap := h.1
  have H := Lib.hid h
  clear h hz
  obtain ⟨zs, hzs⟩ : ∃ zs, cutAt vs i = zs := ⟨_, rfl⟩
  rw [hzs]
  have HZ := Lib.hid (show vs.take i ++ vs.drop (i + 1) = zs from hzs)
  clear hzs
  have LT := Lib.hid (show (vs.take i).length = i by rw [List.length_take]; omega)
  have LD := Lib.hid (show (vs.drop (i + 1)).length = vs.length - (i + 1) by rw [List.length_drop])
  go_enter Try.func22, Try.ntmps22
  go_wp2_with fail
  refine (FD.out _ (H.out.below (bon (bda _ _) (bda _ _)))).mono ?_
  rintro e w2 ⟨rfl, hb⟩
  have r1 := row_on (row_on (heap_alloc_new w (.cells #[.int .i64 next, .slice (some ⟨b, off, none⟩) vs.length c] 34)) (bda _ (.cells #[.int .i64 0, .slice none 0 0] 34))) hb
  have r2 := row_on (heap_alloc_new (w.alloc (.cells #[.int .i64 next, .slice (some ⟨b, off, none⟩) vs.length c] 34)) (.cells #[.int .i64 0, .slice none 0 0] 34)) hb
  have K2 := Lib.hid (bon (bon (bda w (.cells #[.int .i64 next, .slice (some ⟨b, off, none⟩) vs.length c] 34)) (bda _ (.cells #[.int .i64 0, .slice none 0 0] 34))) hb)
  have V2 := Lib.hid (H.out.below K2.out)
  clear hb
  simp only [World.size_alloc] at r2
  have R1 := Lib.hid r1
  have R2 := Lib.hid r2
  clear r1 r2
  have f0 : w2.cell? ⟨w.heap.size, 0, none⟩ = some (.int .i64 next) := row_c R1.out (i := 0) rfl
  have f1 : w2.cell? ⟨w.heap.size, 1, none⟩ = some (.slice (some ⟨b, off, none⟩) vs.length c) := row_c R1.out (i := 1) rfl
  go_wp2_with fail
  refine (RG.out _ V2.out).mono ?_
  rintro e w3 ⟨rfl, hb⟩
  have K3 := Lib.hid (bon K2.out hb)
  have V3 := Lib.hid (V2.out.below hb)
  have R13 := Lib.hid (row_on R1.out hb)
  have R23 := Lib.hid (row_on R2.out hb)
  clear hb f0 f1 R1 R2 K2 V2
  have f0 : w3.cell? ⟨w.heap.size, 0, none⟩ = some (.int .i64 next) := row_c R13.out (i := 0) rfl
  have f1 : w3.cell? ⟨w.heap.size, 1, none⟩ = some (.slice (some ⟨b, off, none⟩) vs.length c) := row_c R13.out (i := 1) rfl
  go_upto_region 6 with (fail)
  have S2 := Lib.hid (show w.heap.size + 1 < w3.heap.size from heap_lt R23.out)
  obtain ⟨W, hW⟩ : ∃ W : World, W = w3.alloc (.cells #[.int .i64 next, .slice none 0 0] 34) := ⟨_, rfl⟩
  have r7 : W.heap[w3.heap.size]? = some (.cells #[.int .i64 next, .slice none 0 0] 34) := by rw [hW]; exact heap_alloc_new _ _
  have BW := Lib.hid (show Below w3.heap.size w3 W by rw [hW]; exact bda _ _)
  have SW := Lib.hid (show W.heap.size = w3.heap.size + 1 by rw [hW]; simp)
  rw [← hW]
  clear hW f0 f1
  have R7 := Lib.hid r7
  clear r7
  have Q1 := Lib.hid (row_on R13.out BW.out)
  have Q2 := Lib.hid (row_on R23.out BW.out)
  have f0 : W.cell? ⟨w.heap.size, 0, none⟩ = some (.int .i64 next) := row_c Q1.out (i := 0) rfl
  have f1 : W.cell? ⟨w.heap.size, 1, none⟩ = some (.slice (some ⟨b, off, none⟩) vs.length c) := row_c Q1.out (i := 1) rfl
  have g0 : W.cell? ⟨w3.heap.size, 0, none⟩ = some (.int .i64 next) := row_c R7.out (i := 0) rfl
  have g1 : W.cell? ⟨w3.heap.size, 1, none⟩ = some (.slice none 0 0) := row_c R7.out (i := 1) rfl
  have OW := Lib.hid ((World.ownsRow_nil W (w3.heap.size + 1) 59 2).drew)
  have VW := Lib.hid (show Vs W.drew _ _ _ from (V3.out.take i).below (below_drew BW.out))
  have a5 : (i : Int) ≤ (c : Int) := by omega
  have a6 : (vs.length : Int) ≤ (c : Int) := by omega
  refine wp_region_still_tail 6 (by kernel_rfl) (by kernel_rfl) ?_
  simp only [List.take_succ_cons, List.take_zero, List.drop_succ_cons, List.drop_zero]
  repeat still_step
  refine wpStill_nil ?_
  change wpList _ _ _ _ _ W.drew
  go_wp2_with (at_builtin; (refine wpList_append_vs vt2 rfl _ _ rfl (w3.heap.size + 1) _ 0 [] (vs.take i) (some ⟨b, off, none⟩) c i rfl OW.out VW.out LT.out.symm rfl (by omega) (Nat.le_of_eq SW.out.symm) ?_))
  intro v' w4 hown hgrow
  obtain ⟨A3, c3, hv, hV, hF⟩ := vs_of_own hown
  rw [LT.out] at hv
  subst hv
  have O3 := Lib.hid hown
  have k3 : Below (w3.heap.size + 1) W.drew w4 := (Below.refl _ _).grown hgrow (Nat.le_of_eq SW.out.symm) (fun k hk => by cases hk)
  have K4 := Lib.hid (show Below (w3.heap.size + 1) W w4 from (show Below (w3.heap.size + 1) W W.drew from (Below.refl _ _).drew).trans k3)
  clear hown hgrow hV hF f0 f1 g0 g1 k3
  have s0 : w.heap.size < w3.heap.size + 1 := by have := S2.out; omega
  have s1 : w.heap.size + 1 < w3.heap.size + 1 := by have := S2.out; omega
  have s2 : w3.heap.size < w3.heap.size + 1 := by omega
  have q1 := Lib.hid ((K4.out.block _ s0).trans Q1.out)
  have q2 := Lib.hid ((K4.out.block _ s1).trans Q2.out)
  have q7 := Lib.hid ((K4.out.block _ s2).trans R7.out)
  have g0 : w4.cell? ⟨w3.heap.size, 0, none⟩ = some (.int .i64 next) := row_c q7.out (i := 0) rfl
  have g1 : w4.cell? ⟨w3.heap.size, 1, none⟩ = some (.slice none 0 0) := row_c q7.out (i := 1) rfl
  have z0 := frozen_of_row _ _ 0 _ _ q7.out
  have z1 := frozen_of_row _ _ 1 _ _ q7.out
  go_upto_region 7 with (fail)
  obtain ⟨U, hU⟩ : ∃ U : World, U = w4.setCell ⟨w3.heap.size, 1, none⟩ (.slice A3 i c3) := ⟨_, rfl⟩
  have OU := Lib.hid (show U.drew.ownsRow (w3.heap.size + 1) 59 2 (.slice A3 i c3) i (vcells (vs.take i)) by rw [hU]; exact (own_set O3.out (Nat.lt_succ_self w3.heap.size) 1 (.slice A3 i c3)).drew)
  have u1 : U.heap[w.heap.size]? = some (.cells #[.int .i64 next, .slice (some ⟨b, off, none⟩) vs.length c] 34) := by rw [hU]; exact (Below.heap_setCell _ _ _ _ (by have := S2.out; simp; omega)).trans q1.out
  have u2 : U.heap[w.heap.size + 1]? = some (.cells #[.int .i64 0, .slice none 0 0] 34) := by rw [hU]; exact (Below.heap_setCell _ _ _ _ (by have := S2.out; simp; omega)).trans q2.out
  have u7 : U.heap[w3.heap.size]? = some (.cells #[.int .i64 next, .slice A3 i c3] 34) := by rw [hU]; unfold World.setCell; simp [Array.getElem?_modify, q7.out]
  have KU := Lib.hid (show Below w3.heap.size w3 U by rw [hU]; exact (BW.out.trans (K4.out.mono (by omega))).setCell (by simp) _)
  have ZU := Lib.hid (show w3.heap.size + 1 ≤ U.heap.size by have := K4.out.size; have := SW.out; rw [hU]; simp; omega)
  rw [← hU]
  clear hU q1 q2 q7 O3 g0 g1 z0 z1
  have U1 := Lib.hid u1
  have U2 := Lib.hid u2
  have U7 := Lib.hid u7
  clear u1 u2 u7
  have f1 : U.cell? ⟨w.heap.size, 1, none⟩ = some (.slice (some ⟨b, off, none⟩) vs.length c) := row_c U1.out (i := 1) rfl
  have g1 : U.cell? ⟨w3.heap.size, 1, none⟩ = some (.slice A3 i c3) := row_c U7.out (i := 1) rfl
  have VD := Lib.hid (show Vs U.drew _ _ _ from ((V3.out.drop (i + 1) (by omega))).below (below_drew KU.out))
  have a1 : IntKind.i64.wrap ((i : Int) + 1) = (i : Int) + 1 := IntWalk.i64_in _ (by omega)
  have a2 : (0 : Int) ≤ (i : Int) + 1 := by omega
  have a3 : ((i : Int) + 1).toNat = i + 1 := by omega
  have a4 : (i : Int) + 1 ≤ (vs.length : Int) := by omega
  have a7 : c ≠ i + 1 := by omega
  refine wp_region_still_tail 7 (by kernel_rfl) (by kernel_rfl) ?_
  simp only [List.take_succ_cons, List.take_zero, List.drop_succ_cons, List.drop_zero]
  repeat still_step
  refine wpStill_nil ?_
  change wpList _ _ _ _ _ U.drew
  go_wp2_with (at_builtin; (refine wpList_append_vs vt2 rfl _ _ rfl (w3.heap.size + 1) _ i (vs.take i) (vs.drop (i + 1)) (some ⟨b, off + (i + 1) * 2, none⟩) (c - (i + 1)) (vs.length - (i + 1)) rfl OU.out VD.out LD.out.symm rfl (by omega) ZU.out ?_))
  intro v' w5 hown hgrow
  rw [HZ.out] at hown
  obtain ⟨A4, c4, hv, hV, hF⟩ := vs_of_own hown
  subst hv
  have V4 := Lib.hid hV
  have F4 := Lib.hid hF
  have k4 : Below (w3.heap.size + 1) U.drew w5 := (Below.refl _ _).grown hgrow ZU.out (fun k hk => (OU.out.lt k hk).1)
  have K5 := Lib.hid (show Below (w3.heap.size + 1) U w5 from (show Below (w3.heap.size + 1) U U.drew from (Below.refl _ _).drew).trans k4)
  clear hown hgrow hV hF f1 g1 k4
  have q2 := Lib.hid ((K5.out.block _ s1).trans U2.out)
  have q7 := Lib.hid ((K5.out.block _ s2).trans U7.out)
  have g0 : w5.cell? ⟨w3.heap.size, 0, none⟩ = some (.int .i64 next) := row_c q7.out (i := 0) rfl
  have g1 : w5.cell? ⟨w3.heap.size, 1, none⟩ = some (.slice A3 i c3) := row_c q7.out (i := 1) rfl
  have z0 := frozen_of_row _ _ 0 _ _ q7.out
  have z1 := frozen_of_row _ _ 1 _ _ q7.out
  have p0 : w5.cell? ⟨w.heap.size + 1, 0, none⟩ = some (.int .i64 0) := row_c q2.out (i := 0) rfl
  have p1 : w5.cell? ⟨w.heap.size + 1, 1, none⟩ = some (.slice none 0 0) := row_c q2.out (i := 1) rfl
  have y0 := frozen_of_row _ _ 0 _ _ q2.out
  have y1 := frozen_of_row _ _ 1 _ _ q2.out
  have ne1 : w.heap.size + 1 ≠ w3.heap.size := by have := S2.out; omega
  have ne2 : w3.heap.size ≠ w.heap.size + 1 := by have := S2.out; omega
  go_wp2
  refine bodyPost_ret (v := .tuple #[.agg #[.int .i64 next, .slice A4 zs.length c4], .bool true]) (by simp [results, Try.results22, go_sem, p0, p1]) rfl ⟨A4, c4, rfl, ?_, ?_, fun b o e => by have := F4.out b o e; have := S2.out; omega⟩
  · exact ((V4.out.set F4.out s2 _ _).set F4.out s1 _ _).set F4.out s1 _ _
  · exact (((((K3.out.trans (KU.out.mono (by have := S2.out; omega))).trans (K5.out.mono (by have := S2.out; omega))).setCell (by have := S2.out; simp; omega) _).setCell (by simp) _).setCell (by simp) _)
end Go.Proofs.Ytlfjopjfolbmiaa
