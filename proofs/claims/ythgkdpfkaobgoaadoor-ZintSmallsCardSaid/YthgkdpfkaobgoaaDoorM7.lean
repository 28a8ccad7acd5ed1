import Derived.Test.YthgkdpfkaobgoaaDoorM6
import Derived.Test.YthgkdpfkaobgoaaDoorRows
import Derived.Test.YthgkdpfkaobgoaaDoorM0
import Derived.WalkKit
import Derived.ProofKit
import Derived.OpenShut
import Derived.ChangeSame
import Derived.Test.YthgkdpfkaobgoaaDoorM5
import Derived.LaidMore
import Derived.Stop.Joined
import Derived.Stop.LaidErr
import Derived.Lib.SmallJoins
section
/-
  The law ZintSmalls of chapter 4, walked.
-/
namespace Go.Proofs.YthgkdpfkaobgoaaDoor
open Go.RowKit
set_option maxHeartbeats 16000000 in
set_option maxRecDepth 100000 in
theorem zsmalls_np (n a b : Int) (n0 : -9223372036854775808 ≤ n) (n9 : n ≤ 9223372036854775807) (a0 : -2147483648 ≤ a) (a9 : a ≤ 2147483647) (b0 : -2147483648 ≤ b) (b9 : b ≤ 2147483647) (cb : b ≠ 0) (cr : Int.tmod a b ≠ 0) (ca : a < 0) (cc : ¬ b < 0) (w : World) (htab : P10 w) :
    Calls Tryd.prog 11 #[.int .i64 n, .int .i32 a, .int .i32 b] w fun e w' => e = .returned (.bool true) ∧ Below w.heap.size w w' := by
  have AB := Lib.hid (show -2147483648 ≤ a ∧ a ≤ 2147483647 ∧ -2147483648 ≤ b ∧ b ≤ 2147483647 from ⟨a0, a9, b0, b9⟩)
  have NB := Lib.hid (show -9223372036854775808 ≤ n ∧ n ≤ 9223372036854775807 from ⟨n0, n9⟩)
  have CB := Lib.hid cb
  have hP := mul_bd a0 a9 b0 b9
  obtain ⟨vn, hvn⟩ := is_z (n)
  have dvn : -9223372036854775808 ≤ vn ∧ vn ≤ 9223372036854775807 := by omega
  have bvn := zlen_64 dvn.1 dvn.2
  have HVN := Lib.hid hvn
  have DVN := Lib.hid dvn
  obtain ⟨va, hva⟩ := is_z (a)
  have dva : -9223372036854775808 ≤ va ∧ va ≤ 9223372036854775807 := by omega
  have bva := zlen_64 dva.1 dva.2
  have HVA := Lib.hid hva
  have DVA := Lib.hid dva
  obtain ⟨vb, hvb⟩ := is_z (b)
  have dvb : -9223372036854775808 ≤ vb ∧ vb ≤ 9223372036854775807 := by omega
  have bvb := zlen_64 dvb.1 dvb.2
  have HVB := Lib.hid hvb
  have DVB := Lib.hid dvb
  obtain ⟨s1, hs1⟩ := is_z (va + vb)
  have ds1 : -9223372036854775808 ≤ s1 ∧ s1 ≤ 9223372036854775807 := by omega
  have bs1 := zlen_64 ds1.1 ds1.2
  have HS1 := Lib.hid hs1
  have DS1 := Lib.hid ds1
  obtain ⟨e1, he1⟩ := is_z (va - vb)
  have de1 : -9223372036854775808 ≤ e1 ∧ e1 ≤ 9223372036854775807 := by omega
  have be1 := zlen_64 de1.1 de1.2
  have HE1 := Lib.hid he1
  have DE1 := Lib.hid de1
  obtain ⟨p1, hp1⟩ := is_z (va * vb)
  have dp1 : -9223372036854775808 ≤ p1 ∧ p1 ≤ 9223372036854775807 := by rw [← hp1, ← hva, ← hvb]; omega
  have bp1 := zlen_64 dp1.1 dp1.2
  have HP1 := Lib.hid hp1
  have DP1 := Lib.hid dp1
  obtain ⟨k1, hk1⟩ := is_z (-va)
  have dk1 : -9223372036854775808 ≤ k1 ∧ k1 ≤ 9223372036854775807 := by omega
  have bk1 := zlen_64 dk1.1 dk1.2
  have HK1 := Lib.hid hk1
  have DK1 := Lib.hid dk1
  obtain ⟨k2, hk2⟩ := is_z (-k1)
  have dk2 : -9223372036854775808 ≤ k2 ∧ k2 ≤ 9223372036854775807 := by omega
  have bk2 := zlen_64 dk2.1 dk2.2
  have HK2 := Lib.hid hk2
  have DK2 := Lib.hid dk2
  obtain ⟨dq, hdq⟩ := is_z (Int.fdiv va vb)
  have ddq : -9223372036854775808 ≤ dq ∧ dq ≤ 9223372036854775807 := by rw [← hdq, ← hva, ← hvb]; have := Int.natAbs_fdiv_le_natAbs a b; omega
  have bdq := zlen_64 ddq.1 ddq.2
  have HDQ := Lib.hid hdq
  have DDQ := Lib.hid ddq
  obtain ⟨dr, hdr⟩ := is_z (Int.fmod va vb)
  have ddr : -9223372036854775808 ≤ dr ∧ dr ≤ 9223372036854775807 := by rw [← hdr, ← hva, ← hvb]; have := (fmod_bd a cb).1; omega
  have bdr := zlen_64 ddr.1 ddr.2
  have HDR := Lib.hid hdr
  have DDR := Lib.hid ddr
  obtain ⟨t1, ht1⟩ := is_z (dq * vb)
  have dt1 : -9223372036854775808 ≤ t1 ∧ t1 ≤ 9223372036854775807 := by rw [← ht1]; have h1 := Int.mul_fdiv_add_fmod va vb; rw [hdq, hdr, Int.mul_comm] at h1; have h2 := (fmod_bd a cb).1; rw [hva, hvb, hdr] at h2; omega
  have bt1 := zlen_64 dt1.1 dt1.2
  have HT1 := Lib.hid ht1
  have DT1 := Lib.hid dt1
  have ea : IntKind.i64.wrap a = a := IntWalk.i64_in _ ⟨by omega, by omega⟩
  have wa : wrap64 a = a := IntWalk.wrap64_in _ ⟨by omega, by omega⟩
  have eb : IntKind.i64.wrap b = b := IntWalk.i64_in _ ⟨by omega, by omega⟩
  have wb : wrap64 b = b := IntWalk.wrap64_in _ ⟨by omega, by omega⟩
  have rs : a + b = s1 := by rw [← hs1, ← hva, ← hvb]
  have es : IntKind.i64.wrap (a + b) = s1 := by rw [rs]; exact IntWalk.i64_in _ ⟨ds1.1, ds1.2⟩
  have ws : wrap64 (a + b) = s1 := by rw [rs]; exact IntWalk.wrap64_in _ ⟨ds1.1, ds1.2⟩
  have rd : a - b = e1 := by rw [← he1, ← hva, ← hvb]
  have ed : IntKind.i64.wrap (a - b) = e1 := by rw [rd]; exact IntWalk.i64_in _ ⟨de1.1, de1.2⟩
  have wd : wrap64 (a - b) = e1 := by rw [rd]; exact IntWalk.wrap64_in _ ⟨de1.1, de1.2⟩
  have rp : a * b = p1 := by rw [← hp1, ← hva, ← hvb]
  have ep : IntKind.i64.wrap (a * b) = p1 := by rw [rp]; exact IntWalk.i64_in _ ⟨dp1.1, dp1.2⟩
  have wp : wrap64 (a * b) = p1 := by rw [rp]; exact IntWalk.wrap64_in _ ⟨dp1.1, dp1.2⟩
  have hb0 : (b == 0) = false := beq_eq_false_iff_ne.2 cb
  have VB := Lib.hid (show vb ≠ 0 by omega)
  obtain ⟨w0, hw0⟩ := is_z (dq + 1)
  have dw0 : -9223372036854775808 ≤ w0 ∧ w0 ≤ 9223372036854775807 := by rw [← hw0, ← hdq, ← hva, ← hvb]; have := Int.natAbs_fdiv_le_natAbs a b; omega
  have rt : a.tdiv b = w0 := by rw [← hw0, ← hdq, ← hva, ← hvb]; exact tdiv_less cb cr (by simp [ca, cc])
  have et : IntKind.i64.wrap (a.tdiv b) = w0 := by rw [rt]; exact IntWalk.i64_in _ ⟨dw0.1, dw0.2⟩
  have wt : wrap64 (a.tdiv b) = w0 := by rw [rt]; exact IntWalk.wrap64_in _ ⟨dw0.1, dw0.2⟩
  have rw_ : w0 - 1 = dq := by omega
  have ew_ : IntKind.i64.wrap (w0 - 1) = dq := by rw [rw_]; exact IntWalk.i64_in _ ⟨ddq.1, ddq.2⟩
  have ww_ : wrap64 (w0 - 1) = dq := by rw [rw_]; exact IntWalk.wrap64_in _ ⟨ddq.1, ddq.2⟩
  have rm : dq * b = t1 := by rw [← ht1, ← hvb]
  have em : IntKind.i64.wrap (dq * b) = t1 := by rw [rm]; exact IntWalk.i64_in _ ⟨dt1.1, dt1.2⟩
  have wm : wrap64 (dq * b) = t1 := by rw [rm]; exact IntWalk.wrap64_in _ ⟨dt1.1, dt1.2⟩
  have rv : a - t1 = dr := by have h1 := Int.mul_fdiv_add_fmod va vb; rw [hdq, hdr, Int.mul_comm, ht1] at h1; omega
  have ev : IntKind.i64.wrap (a - t1) = dr := by rw [rv]; exact IntWalk.i64_in _ ⟨ddr.1, ddr.2⟩
  have wv : wrap64 (a - t1) = dr := by rw [rv]; exact IntWalk.wrap64_in _ ⟨ddr.1, ddr.2⟩
  have hc1 : (a.tmod b != 0) = true := by simpa using cr
  have hc1b : ¬ a.tmod b = 0 := cr
  have hc2 : decide (a < 0) = true := by simp [ca]
  have hc3 : decide (b < 0) = false := by simp [cc]
  have NN := Lib.hid (show smallz vn = n ∧ smallb vn = true from ⟨by rw [smallz_in dvn.1 dvn.2]; exact hvn.symm, smallb_in dvn.1 dvn.2⟩)
  have SS1 := Lib.hid (show smallz s1 = s1 ∧ smallb s1 = true from ⟨smallz_in ds1.1 ds1.2, smallb_in ds1.1 ds1.2⟩)
  have SE1 := Lib.hid (show smallz e1 = e1 ∧ smallb e1 = true from ⟨smallz_in de1.1 de1.2, smallb_in de1.1 de1.2⟩)
  have SP1 := Lib.hid (show smallz p1 = p1 ∧ smallb p1 = true from ⟨smallz_in dp1.1 dp1.2, smallb_in dp1.1 dp1.2⟩)
  have SDQ := Lib.hid (show smallz dq = dq ∧ smallb dq = true from ⟨smallz_in ddq.1 ddq.2, smallb_in ddq.1 ddq.2⟩)
  have SDR := Lib.hid (show smallz dr = dr ∧ smallb dr = true from ⟨smallz_in ddr.1 ddr.2, smallb_in ddr.1 ddr.2⟩)
  have EB := Lib.hid (show k2 = va by omega)
  clear rs rd rp rt rm rv rw_
  have lbvn := Lib.hid (show (digs vn.natAbs).length ≤ 100000 by omega)
  have lbva := Lib.hid (show (digs va.natAbs).length ≤ 100000 by omega)
  have lbvb := Lib.hid (show (digs vb.natAbs).length ≤ 100000 by omega)
  have lbs1 := Lib.hid (show (digs s1.natAbs).length ≤ 100000 by omega)
  have lbe1 := Lib.hid (show (digs e1.natAbs).length ≤ 100000 by omega)
  have lbp1 := Lib.hid (show (digs p1.natAbs).length ≤ 100000 by omega)
  have lbk1 := Lib.hid (show (digs k1.natAbs).length ≤ 100000 by omega)
  have lbk2 := Lib.hid (show (digs k2.natAbs).length ≤ 100000 by omega)
  have lbdq := Lib.hid (show (digs dq.natAbs).length ≤ 100000 by omega)
  have lbdr := Lib.hid (show (digs dr.natAbs).length ≤ 100000 by omega)
  have HT := Lib.hid htab
  clear htab n0 n9 a0 a9 b0 b9 cb hP cr ca cc hvn dvn bvn hva dva bva hvb dvb bvb hs1 ds1 bs1 he1 de1 be1 hp1 dp1 bp1 hk1 dk1 bk1 hk2 dk2 bk2 hdq ddq bdq hdr ddr bdr ht1 dt1 bt1 hw0 dw0
  have EX := Lib.hid (fun V hv => examples_any V hv)
  go_enter Tryd.func11, Tryd.ntmps11
  have L0 := Lib.hid (live_start w)
  go_wp2_with fail
  refine (EX.out w HT.out).mono ?_
  rintro e w1 ⟨rfl, hb⟩
  have L1 := Lib.hid (L0.out.step hb)
  clear hb 
  go_wp2_with fail
  refine (zfrom_z (x := vn) HVN.out DVN.out.1 DVN.out.2).mono ?_
  rintro e w2 ⟨A2, c2, rfl, hd, hb⟩
  have L2 := Lib.hid ((L1.out.step hb).add hd)
  clear hb hd
  go_wp2_with fail
  refine (zsmall_z (q := n) (ok := true) (L2.out.get (A := A2) (c := c2) (xs := (digs (vn).natAbs)) (by simp)) (sg_z _) (le6 lbvn.out) NN.out.1 NN.out.2).mono ?_
  rintro e w3 ⟨rfl, hb⟩
  have L3 := Lib.hid (L2.out.step hb)
  clear hb 
  go_wp2_with fail
  refine (zfrom_z (x := va) HVA.out DVA.out.1 DVA.out.2).mono ?_
  rintro e w4 ⟨A4, c4, rfl, hd, hb⟩
  have L4 := Lib.hid ((L3.out.step hb).add hd)
  clear hb hd
  go_wp2_with fail
  have Lx5 := Lib.hid (L4.out.step (below1 w4 (.cells #[.bool (decide (va < 0)), .slice A4 (digs va.natAbs).length c4] 24)))
  refine (zfrom_z (x := vb) HVB.out DVB.out.1 DVB.out.2).mono ?_
  rintro e w5 ⟨A5, c5, rfl, hd, hb⟩
  have L5 := Lib.hid ((Lx5.out.step hb).add hd)
  have Rx_5 := Lib.hid (cells_of (heap_alloc_new w4 (.cells #[.bool (decide (va < 0)), .slice A4 (digs va.natAbs).length c4] 24)) hb)
  clear hb hd
  have fx0 := cell_of_row w5 _ 0 _ _ _ Rx_5.out
  have fx1 := cell_of_row w5 _ 1 _ _ _ Rx_5.out
  have xx := heap_lt Rx_5.out
  simp only [List.getElem?_toArray, List.getElem?_cons_zero, List.getElem?_cons_succ] at fx0 fx1
  go_wp2_with fail
  have Lx6 := Lib.hid (L5.out.step (below1 w5 (.cells #[.bool (decide (vb < 0)), .slice A5 (digs vb.natAbs).length c5] 24)))
  refine (zadd_v (z := s1) (Lx6.out.get (A := A4) (c := c4) (xs := (digs (va).natAbs)) (by simp)) (Lx6.out.get (A := A5) (c := c5) (xs := (digs (vb).natAbs)) (by simp)) (sg_z _) (sg_z _) (le6 lbva.out) (le6 lbvb.out) HS1.out).mono ?_
  rintro e w6 ⟨A6, c6, rfl, hd, hb⟩
  have L6 := Lib.hid ((Lx6.out.step hb).add hd)
  have Rx_6 := Lib.hid (cells_of (cells_of Rx_5.out (below1 w5 (.cells #[.bool (decide (vb < 0)), .slice A5 (digs vb.natAbs).length c5] 24))) hb)
  clear fx0 fx1 xx
  have Ry_6 := Lib.hid (cells_of (heap_alloc_new w5 (.cells #[.bool (decide (vb < 0)), .slice A5 (digs vb.natAbs).length c5] 24)) hb)
  clear hb hd
  go_wp2_with fail
  refine (zsmall_z (q := s1) (ok := true) (L6.out.get (A := A6) (c := c6) (xs := (digs (s1).natAbs)) (by simp)) (sg_z _) (le6 lbs1.out) SS1.out.1 SS1.out.2).mono ?_
  rintro e w7 ⟨rfl, hb⟩
  have L7 := Lib.hid (L6.out.step hb)
  have Rx_7 := Lib.hid (cells_of Rx_6.out hb)
  have Ry_7 := Lib.hid (cells_of Ry_6.out hb)
  clear hb 
  have fx0 := cell_of_row w7 _ 0 _ _ _ Rx_7.out
  have fx1 := cell_of_row w7 _ 1 _ _ _ Rx_7.out
  have xx := heap_lt Rx_7.out
  have fy0 := cell_of_row w7 _ 0 _ _ _ Ry_7.out
  have fy1 := cell_of_row w7 _ 1 _ _ _ Ry_7.out
  have xy := heap_lt Ry_7.out
  simp only [List.getElem?_toArray, List.getElem?_cons_zero, List.getElem?_cons_succ] at fx0 fx1 fy0 fy1
  go_wp2_with fail
  refine (zsub_v (z := e1) (L7.out.get (A := A4) (c := c4) (xs := (digs (va).natAbs)) (by simp)) (L7.out.get (A := A5) (c := c5) (xs := (digs (vb).natAbs)) (by simp)) (sg_z _) (sg_z _) (le6 lbva.out) (le6 lbvb.out) HE1.out).mono ?_
  rintro e w8 ⟨A8, c8, rfl, hd, hb⟩
  have L8 := Lib.hid ((L7.out.step hb).add hd)
  have Rx_8 := Lib.hid (cells_of Rx_7.out hb)
  have Ry_8 := Lib.hid (cells_of Ry_7.out hb)
  clear fx0 fx1 xx fy0 fy1 xy
  clear hb hd
  go_wp2_with fail
  refine (zsmall_z (q := e1) (ok := true) (L8.out.get (A := A8) (c := c8) (xs := (digs (e1).natAbs)) (by simp)) (sg_z _) (le6 lbe1.out) SE1.out.1 SE1.out.2).mono ?_
  rintro e w9 ⟨rfl, hb⟩
  have L9 := Lib.hid (L8.out.step hb)
  have Rx_9 := Lib.hid (cells_of Rx_8.out hb)
  have Ry_9 := Lib.hid (cells_of Ry_8.out hb)
  clear hb 
  have fx0 := cell_of_row w9 _ 0 _ _ _ Rx_9.out
  have fx1 := cell_of_row w9 _ 1 _ _ _ Rx_9.out
  have xx := heap_lt Rx_9.out
  have fy0 := cell_of_row w9 _ 0 _ _ _ Ry_9.out
  have fy1 := cell_of_row w9 _ 1 _ _ _ Ry_9.out
  have xy := heap_lt Ry_9.out
  simp only [List.getElem?_toArray, List.getElem?_cons_zero, List.getElem?_cons_succ] at fx0 fx1 fy0 fy1
  go_wp2_with fail
  refine (zmul_v (z := p1) (L9.out.get (A := A4) (c := c4) (xs := (digs (va).natAbs)) (by simp)) (L9.out.get (A := A5) (c := c5) (xs := (digs (vb).natAbs)) (by simp)) (sg_z _) (sg_z _) (le6 lbva.out) (le6 lbvb.out) HP1.out).mono ?_
  rintro e w10 ⟨A10, c10, rfl, hd, hb⟩
  have L10 := Lib.hid ((L9.out.step hb).add hd)
  have Rx_10 := Lib.hid (cells_of Rx_9.out hb)
  have Ry_10 := Lib.hid (cells_of Ry_9.out hb)
  clear fx0 fx1 xx fy0 fy1 xy
  clear hb hd
  go_wp2_with fail
  refine (zsmall_z (q := p1) (ok := true) (L10.out.get (A := A10) (c := c10) (xs := (digs (p1).natAbs)) (by simp)) (sg_z _) (le6 lbp1.out) SP1.out.1 SP1.out.2).mono ?_
  rintro e w11 ⟨rfl, hb⟩
  have L11 := Lib.hid (L10.out.step hb)
  have Rx_11 := Lib.hid (cells_of Rx_10.out hb)
  have Ry_11 := Lib.hid (cells_of Ry_10.out hb)
  clear hb 
  have fx0 := cell_of_row w11 _ 0 _ _ _ Rx_11.out
  have fx1 := cell_of_row w11 _ 1 _ _ _ Rx_11.out
  have xx := heap_lt Rx_11.out
  have fy0 := cell_of_row w11 _ 0 _ _ _ Ry_11.out
  have fy1 := cell_of_row w11 _ 1 _ _ _ Ry_11.out
  have xy := heap_lt Ry_11.out
  simp only [List.getElem?_toArray, List.getElem?_cons_zero, List.getElem?_cons_succ] at fx0 fx1 fy0 fy1
  go_wp2_with fail
  refine (zdiv_z (u := dq) (v := dr) (L11.out.get (A := A4) (c := c4) (xs := (digs (va).natAbs)) (by simp)) (L11.out.get (A := A5) (c := c5) (xs := (digs (vb).natAbs)) (by simp)) (sg_z _) (sg_z _) (le6 lbva.out) (le6 lbvb.out) VB.out HDQ.out HDR.out).mono ?_
  rintro e w12 ⟨A12, c12, B12, d12, rfl, hd, hd', hb⟩
  have L12 := Lib.hid (((L11.out.step hb).add hd).add hd')
  have Rx_12 := Lib.hid (cells_of Rx_11.out hb)
  have Ry_12 := Lib.hid (cells_of Ry_11.out hb)
  clear fx0 fx1 xx fy0 fy1 xy
  clear hb hd hd'
  go_wp2_with fail
  obtain ⟨w13, hW⟩ : ∃ W : World, W = ((w12.alloc (.cells #[.bool (decide (dq < 0)), .slice A12 (digs dq.natAbs).length c12] 24)).alloc (.cells #[.bool (decide (dr < 0)), .slice B12 (digs dr.natAbs).length d12] 24)) := ⟨_, rfl⟩
  rw [← hW]
  have hb : Below w12.heap.size w12 w13 := by rw [hW]; exact below2 _ _ _
  have L13 := Lib.hid (L12.out.step hb)
  have Rx_13 := Lib.hid (cells_of Rx_12.out hb)
  have Ry_13 := Lib.hid (cells_of Ry_12.out hb)
  have Rq_13 := Lib.hid (show w13.heap[w12.heap.size]? = some (.cells #[.bool (decide (dq < 0)), .slice A12 (digs dq.natAbs).length c12] 24 (0, 0)) by rw [hW]; exact heap_alloc2_old _ _ _)
  have Rr_13 := Lib.hid (show w13.heap[w12.heap.size + 1]? = some (.cells #[.bool (decide (dr < 0)), .slice B12 (digs dr.natAbs).length d12] 24 (0, 0)) by rw [hW]; exact heap_alloc2_new _ _ _)
  clear hW hb
  have fx0 := cell_of_row w13 _ 0 _ _ _ Rx_13.out
  have fx1 := cell_of_row w13 _ 1 _ _ _ Rx_13.out
  have xx := heap_lt Rx_13.out
  simp only [List.getElem?_toArray, List.getElem?_cons_zero, List.getElem?_cons_succ] at fx0 fx1
  have KD := Lib.hid (bd0 w13)
  have LD := Lib.hid (L13.out.step KD.out)
  go_region_held3 (fun w' => ∀ b o, b < w13.heap.size → w'.cell? ⟨b, o, none⟩ = w13.cell? ⟨b, o, none⟩)
    (first | with_reducible exact (bcell KD.out).1 | with_reducible exact (bcell K15.out).1 | with_reducible exact (bcell K16.out).1 | with_reducible exact (bcell K17.out).1)
    (first
      | (go_at_call_of 21 A4; (with_reducible refine (zneg_v (z := k1) (LD.out.get (A := A4) (c := c4) (xs := (digs (va).natAbs)) (by simp)) (sg_z _) (le6 lbva.out) HK1.out).mono ?_); rintro e w15 ⟨A15, c15, rfl, hd, hb⟩; (have K15 := Lib.hid (KD.out.trans (hb.mono KD.out.size))); (have L15 := Lib.hid ((LD.out.step hb).add hd)); clear hb hd)
      | (go_at_call_of 21 A15; (with_reducible refine (zneg_v (z := k2) (L15.out.get (A := A15) (c := c15) (xs := (digs (k1).natAbs)) (by simp)) (sg_z _) (le6 lbk1.out) HK2.out).mono ?_); rintro e w16 ⟨A16, c16, rfl, hd, hb⟩; (have K16 := Lib.hid (K15.out.trans (hb.mono K15.out.size))); (have L16 := Lib.hid ((L15.out.step hb).add hd)); clear hb hd)
      | (go_at_call 14; (with_reducible refine (same_z (x := k2) (y := va) (L16.out.get (A := A16) (c := c16) (xs := (digs (k2).natAbs)) (by simp)) (L16.out.get (A := A4) (c := c4) (xs := (digs (va).natAbs)) (by simp)) (Nat.le_trans lbk2.out (by omega)) EB.out).mono ?_); rintro e w17 ⟨rfl, hb⟩; (have K17 := Lib.hid (K16.out.trans (hb.mono K16.out.size))); (have L17 := Lib.hid (L16.out.step hb)); clear hb ))
  clear fx0 fx1 xx
  have Rx_17 := Lib.hid (cells_of Rx_13.out K17.out)
  have Ry_17 := Lib.hid (cells_of Ry_13.out K17.out)
  have Rq_17 := Lib.hid (cells_of Rq_13.out K17.out)
  have Rr_17 := Lib.hid (cells_of Rr_13.out K17.out)
  clear KD LD
  have fq0 := cell_of_row w17 _ 0 _ _ _ Rq_17.out
  have fq1 := cell_of_row w17 _ 1 _ _ _ Rq_17.out
  have xq := heap_lt Rq_17.out
  simp only [List.getElem?_toArray, List.getElem?_cons_zero, List.getElem?_cons_succ] at fq0 fq1
  go_wp2_with fail
  refine (zsmall_z (q := dq) (ok := true) (L17.out.get (A := A12) (c := c12) (xs := (digs (dq).natAbs)) (by simp)) (sg_z _) (le6 lbdq.out) SDQ.out.1 SDQ.out.2).mono ?_
  rintro e w18 ⟨rfl, hb⟩
  have L18 := Lib.hid (L17.out.step hb)
  have Rx_18 := Lib.hid (cells_of Rx_17.out hb)
  have Ry_18 := Lib.hid (cells_of Ry_17.out hb)
  have Rq_18 := Lib.hid (cells_of Rq_17.out hb)
  have Rr_18 := Lib.hid (cells_of Rr_17.out hb)
  clear fq0 fq1 xq
  clear hb 
  have fr0 := cell_of_row w18 _ 0 _ _ _ Rr_18.out
  have fr1 := cell_of_row w18 _ 1 _ _ _ Rr_18.out
  have xr := heap_lt Rr_18.out
  simp only [List.getElem?_toArray, List.getElem?_cons_zero, List.getElem?_cons_succ] at fr0 fr1
  go_wp2_with fail
  refine (zsmall_z (q := dr) (ok := true) (L18.out.get (A := B12) (c := d12) (xs := (digs (dr).natAbs)) (by simp)) (sg_z _) (le6 lbdr.out) SDR.out.1 SDR.out.2).mono ?_
  rintro e w19 ⟨rfl, hb⟩
  have L19 := Lib.hid (L18.out.step hb)
  have Rx_19 := Lib.hid (cells_of Rx_18.out hb)
  have Ry_19 := Lib.hid (cells_of Ry_18.out hb)
  have Rq_19 := Lib.hid (cells_of Rq_18.out hb)
  have Rr_19 := Lib.hid (cells_of Rr_18.out hb)
  clear fr0 fr1 xr
  clear hb 
  go_wp2
  go_ret
  exact ⟨rfl, L19.out.1⟩
end Go.Proofs.YthgkdpfkaobgoaaDoor
end

section
/-
  The law ZintSmalls of chapter 4, walked.
-/
namespace Go.Proofs.YthgkdpfkaobgoaaDoor
open Go.RowKit
set_option maxHeartbeats 16000000 in
set_option maxRecDepth 100000 in
theorem zsmalls_pn (n a b : Int) (n0 : -9223372036854775808 ≤ n) (n9 : n ≤ 9223372036854775807) (a0 : -2147483648 ≤ a) (a9 : a ≤ 2147483647) (b0 : -2147483648 ≤ b) (b9 : b ≤ 2147483647) (cb : b ≠ 0) (cr : Int.tmod a b ≠ 0) (ca : ¬ a < 0) (cc : b < 0) (w : World) (htab : P10 w) :
    Calls Tryd.prog 11 #[.int .i64 n, .int .i32 a, .int .i32 b] w fun e w' => e = .returned (.bool true) ∧ Below w.heap.size w w' := by
  have AB := Lib.hid (show -2147483648 ≤ a ∧ a ≤ 2147483647 ∧ -2147483648 ≤ b ∧ b ≤ 2147483647 from ⟨a0, a9, b0, b9⟩)
  have NB := Lib.hid (show -9223372036854775808 ≤ n ∧ n ≤ 9223372036854775807 from ⟨n0, n9⟩)
  have CB := Lib.hid cb
  have hP := mul_bd a0 a9 b0 b9
  obtain ⟨vn, hvn⟩ := is_z (n)
  have dvn : -9223372036854775808 ≤ vn ∧ vn ≤ 9223372036854775807 := by omega
  have bvn := zlen_64 dvn.1 dvn.2
  have HVN := Lib.hid hvn
  have DVN := Lib.hid dvn
  obtain ⟨va, hva⟩ := is_z (a)
  have dva : -9223372036854775808 ≤ va ∧ va ≤ 9223372036854775807 := by omega
  have bva := zlen_64 dva.1 dva.2
  have HVA := Lib.hid hva
  have DVA := Lib.hid dva
  obtain ⟨vb, hvb⟩ := is_z (b)
  have dvb : -9223372036854775808 ≤ vb ∧ vb ≤ 9223372036854775807 := by omega
  have bvb := zlen_64 dvb.1 dvb.2
  have HVB := Lib.hid hvb
  have DVB := Lib.hid dvb
  obtain ⟨s1, hs1⟩ := is_z (va + vb)
  have ds1 : -9223372036854775808 ≤ s1 ∧ s1 ≤ 9223372036854775807 := by omega
  have bs1 := zlen_64 ds1.1 ds1.2
  have HS1 := Lib.hid hs1
  have DS1 := Lib.hid ds1
  obtain ⟨e1, he1⟩ := is_z (va - vb)
  have de1 : -9223372036854775808 ≤ e1 ∧ e1 ≤ 9223372036854775807 := by omega
  have be1 := zlen_64 de1.1 de1.2
  have HE1 := Lib.hid he1
  have DE1 := Lib.hid de1
  obtain ⟨p1, hp1⟩ := is_z (va * vb)
  have dp1 : -9223372036854775808 ≤ p1 ∧ p1 ≤ 9223372036854775807 := by rw [← hp1, ← hva, ← hvb]; omega
  have bp1 := zlen_64 dp1.1 dp1.2
  have HP1 := Lib.hid hp1
  have DP1 := Lib.hid dp1
  obtain ⟨k1, hk1⟩ := is_z (-va)
  have dk1 : -9223372036854775808 ≤ k1 ∧ k1 ≤ 9223372036854775807 := by omega
  have bk1 := zlen_64 dk1.1 dk1.2
  have HK1 := Lib.hid hk1
  have DK1 := Lib.hid dk1
  obtain ⟨k2, hk2⟩ := is_z (-k1)
  have dk2 : -9223372036854775808 ≤ k2 ∧ k2 ≤ 9223372036854775807 := by omega
  have bk2 := zlen_64 dk2.1 dk2.2
  have HK2 := Lib.hid hk2
  have DK2 := Lib.hid dk2
  obtain ⟨dq, hdq⟩ := is_z (Int.fdiv va vb)
  have ddq : -9223372036854775808 ≤ dq ∧ dq ≤ 9223372036854775807 := by rw [← hdq, ← hva, ← hvb]; have := Int.natAbs_fdiv_le_natAbs a b; omega
  have bdq := zlen_64 ddq.1 ddq.2
  have HDQ := Lib.hid hdq
  have DDQ := Lib.hid ddq
  obtain ⟨dr, hdr⟩ := is_z (Int.fmod va vb)
  have ddr : -9223372036854775808 ≤ dr ∧ dr ≤ 9223372036854775807 := by rw [← hdr, ← hva, ← hvb]; have := (fmod_bd a cb).1; omega
  have bdr := zlen_64 ddr.1 ddr.2
  have HDR := Lib.hid hdr
  have DDR := Lib.hid ddr
  obtain ⟨t1, ht1⟩ := is_z (dq * vb)
  have dt1 : -9223372036854775808 ≤ t1 ∧ t1 ≤ 9223372036854775807 := by rw [← ht1]; have h1 := Int.mul_fdiv_add_fmod va vb; rw [hdq, hdr, Int.mul_comm] at h1; have h2 := (fmod_bd a cb).1; rw [hva, hvb, hdr] at h2; omega
  have bt1 := zlen_64 dt1.1 dt1.2
  have HT1 := Lib.hid ht1
  have DT1 := Lib.hid dt1
  have ea : IntKind.i64.wrap a = a := IntWalk.i64_in _ ⟨by omega, by omega⟩
  have wa : wrap64 a = a := IntWalk.wrap64_in _ ⟨by omega, by omega⟩
  have eb : IntKind.i64.wrap b = b := IntWalk.i64_in _ ⟨by omega, by omega⟩
  have wb : wrap64 b = b := IntWalk.wrap64_in _ ⟨by omega, by omega⟩
  have rs : a + b = s1 := by rw [← hs1, ← hva, ← hvb]
  have es : IntKind.i64.wrap (a + b) = s1 := by rw [rs]; exact IntWalk.i64_in _ ⟨ds1.1, ds1.2⟩
  have ws : wrap64 (a + b) = s1 := by rw [rs]; exact IntWalk.wrap64_in _ ⟨ds1.1, ds1.2⟩
  have rd : a - b = e1 := by rw [← he1, ← hva, ← hvb]
  have ed : IntKind.i64.wrap (a - b) = e1 := by rw [rd]; exact IntWalk.i64_in _ ⟨de1.1, de1.2⟩
  have wd : wrap64 (a - b) = e1 := by rw [rd]; exact IntWalk.wrap64_in _ ⟨de1.1, de1.2⟩
  have rp : a * b = p1 := by rw [← hp1, ← hva, ← hvb]
  have ep : IntKind.i64.wrap (a * b) = p1 := by rw [rp]; exact IntWalk.i64_in _ ⟨dp1.1, dp1.2⟩
  have wp : wrap64 (a * b) = p1 := by rw [rp]; exact IntWalk.wrap64_in _ ⟨dp1.1, dp1.2⟩
  have hb0 : (b == 0) = false := beq_eq_false_iff_ne.2 cb
  have VB := Lib.hid (show vb ≠ 0 by omega)
  obtain ⟨w0, hw0⟩ := is_z (dq + 1)
  have dw0 : -9223372036854775808 ≤ w0 ∧ w0 ≤ 9223372036854775807 := by rw [← hw0, ← hdq, ← hva, ← hvb]; have := Int.natAbs_fdiv_le_natAbs a b; omega
  have rt : a.tdiv b = w0 := by rw [← hw0, ← hdq, ← hva, ← hvb]; exact tdiv_less cb cr (by simp [ca, cc])
  have et : IntKind.i64.wrap (a.tdiv b) = w0 := by rw [rt]; exact IntWalk.i64_in _ ⟨dw0.1, dw0.2⟩
  have wt : wrap64 (a.tdiv b) = w0 := by rw [rt]; exact IntWalk.wrap64_in _ ⟨dw0.1, dw0.2⟩
  have rw_ : w0 - 1 = dq := by omega
  have ew_ : IntKind.i64.wrap (w0 - 1) = dq := by rw [rw_]; exact IntWalk.i64_in _ ⟨ddq.1, ddq.2⟩
  have ww_ : wrap64 (w0 - 1) = dq := by rw [rw_]; exact IntWalk.wrap64_in _ ⟨ddq.1, ddq.2⟩
  have rm : dq * b = t1 := by rw [← ht1, ← hvb]
  have em : IntKind.i64.wrap (dq * b) = t1 := by rw [rm]; exact IntWalk.i64_in _ ⟨dt1.1, dt1.2⟩
  have wm : wrap64 (dq * b) = t1 := by rw [rm]; exact IntWalk.wrap64_in _ ⟨dt1.1, dt1.2⟩
  have rv : a - t1 = dr := by have h1 := Int.mul_fdiv_add_fmod va vb; rw [hdq, hdr, Int.mul_comm, ht1] at h1; omega
  have ev : IntKind.i64.wrap (a - t1) = dr := by rw [rv]; exact IntWalk.i64_in _ ⟨ddr.1, ddr.2⟩
  have wv : wrap64 (a - t1) = dr := by rw [rv]; exact IntWalk.wrap64_in _ ⟨ddr.1, ddr.2⟩
  have hc1 : (a.tmod b != 0) = true := by simpa using cr
  have hc1b : ¬ a.tmod b = 0 := cr
  have hc2 : decide (a < 0) = false := by simp [ca]
  have hc3 : decide (b < 0) = true := by simp [cc]
  have NN := Lib.hid (show smallz vn = n ∧ smallb vn = true from ⟨by rw [smallz_in dvn.1 dvn.2]; exact hvn.symm, smallb_in dvn.1 dvn.2⟩)
  have SS1 := Lib.hid (show smallz s1 = s1 ∧ smallb s1 = true from ⟨smallz_in ds1.1 ds1.2, smallb_in ds1.1 ds1.2⟩)
  have SE1 := Lib.hid (show smallz e1 = e1 ∧ smallb e1 = true from ⟨smallz_in de1.1 de1.2, smallb_in de1.1 de1.2⟩)
  have SP1 := Lib.hid (show smallz p1 = p1 ∧ smallb p1 = true from ⟨smallz_in dp1.1 dp1.2, smallb_in dp1.1 dp1.2⟩)
  have SDQ := Lib.hid (show smallz dq = dq ∧ smallb dq = true from ⟨smallz_in ddq.1 ddq.2, smallb_in ddq.1 ddq.2⟩)
  have SDR := Lib.hid (show smallz dr = dr ∧ smallb dr = true from ⟨smallz_in ddr.1 ddr.2, smallb_in ddr.1 ddr.2⟩)
  have EB := Lib.hid (show k2 = va by omega)
  clear rs rd rp rt rm rv rw_
  have lbvn := Lib.hid (show (digs vn.natAbs).length ≤ 100000 by omega)
  have lbva := Lib.hid (show (digs va.natAbs).length ≤ 100000 by omega)
  have lbvb := Lib.hid (show (digs vb.natAbs).length ≤ 100000 by omega)
  have lbs1 := Lib.hid (show (digs s1.natAbs).length ≤ 100000 by omega)
  have lbe1 := Lib.hid (show (digs e1.natAbs).length ≤ 100000 by omega)
  have lbp1 := Lib.hid (show (digs p1.natAbs).length ≤ 100000 by omega)
  have lbk1 := Lib.hid (show (digs k1.natAbs).length ≤ 100000 by omega)
  have lbk2 := Lib.hid (show (digs k2.natAbs).length ≤ 100000 by omega)
  have lbdq := Lib.hid (show (digs dq.natAbs).length ≤ 100000 by omega)
  have lbdr := Lib.hid (show (digs dr.natAbs).length ≤ 100000 by omega)
  have HT := Lib.hid htab
  clear htab n0 n9 a0 a9 b0 b9 cb hP cr ca cc hvn dvn bvn hva dva bva hvb dvb bvb hs1 ds1 bs1 he1 de1 be1 hp1 dp1 bp1 hk1 dk1 bk1 hk2 dk2 bk2 hdq ddq bdq hdr ddr bdr ht1 dt1 bt1 hw0 dw0
  have EX := Lib.hid (fun V hv => examples_any V hv)
  go_enter Tryd.func11, Tryd.ntmps11
  have L0 := Lib.hid (live_start w)
  go_wp2_with fail
  refine (EX.out w HT.out).mono ?_
  rintro e w1 ⟨rfl, hb⟩
  have L1 := Lib.hid (L0.out.step hb)
  clear hb 
  go_wp2_with fail
  refine (zfrom_z (x := vn) HVN.out DVN.out.1 DVN.out.2).mono ?_
  rintro e w2 ⟨A2, c2, rfl, hd, hb⟩
  have L2 := Lib.hid ((L1.out.step hb).add hd)
  clear hb hd
  go_wp2_with fail
  refine (zsmall_z (q := n) (ok := true) (L2.out.get (A := A2) (c := c2) (xs := (digs (vn).natAbs)) (by simp)) (sg_z _) (le6 lbvn.out) NN.out.1 NN.out.2).mono ?_
  rintro e w3 ⟨rfl, hb⟩
  have L3 := Lib.hid (L2.out.step hb)
  clear hb 
  go_wp2_with fail
  refine (zfrom_z (x := va) HVA.out DVA.out.1 DVA.out.2).mono ?_
  rintro e w4 ⟨A4, c4, rfl, hd, hb⟩
  have L4 := Lib.hid ((L3.out.step hb).add hd)
  clear hb hd
  go_wp2_with fail
  have Lx5 := Lib.hid (L4.out.step (below1 w4 (.cells #[.bool (decide (va < 0)), .slice A4 (digs va.natAbs).length c4] 24)))
  refine (zfrom_z (x := vb) HVB.out DVB.out.1 DVB.out.2).mono ?_
  rintro e w5 ⟨A5, c5, rfl, hd, hb⟩
  have L5 := Lib.hid ((Lx5.out.step hb).add hd)
  have Rx_5 := Lib.hid (cells_of (heap_alloc_new w4 (.cells #[.bool (decide (va < 0)), .slice A4 (digs va.natAbs).length c4] 24)) hb)
  clear hb hd
  have fx0 := cell_of_row w5 _ 0 _ _ _ Rx_5.out
  have fx1 := cell_of_row w5 _ 1 _ _ _ Rx_5.out
  have xx := heap_lt Rx_5.out
  simp only [List.getElem?_toArray, List.getElem?_cons_zero, List.getElem?_cons_succ] at fx0 fx1
  go_wp2_with fail
  have Lx6 := Lib.hid (L5.out.step (below1 w5 (.cells #[.bool (decide (vb < 0)), .slice A5 (digs vb.natAbs).length c5] 24)))
  refine (zadd_v (z := s1) (Lx6.out.get (A := A4) (c := c4) (xs := (digs (va).natAbs)) (by simp)) (Lx6.out.get (A := A5) (c := c5) (xs := (digs (vb).natAbs)) (by simp)) (sg_z _) (sg_z _) (le6 lbva.out) (le6 lbvb.out) HS1.out).mono ?_
  rintro e w6 ⟨A6, c6, rfl, hd, hb⟩
  have L6 := Lib.hid ((Lx6.out.step hb).add hd)
  have Rx_6 := Lib.hid (cells_of (cells_of Rx_5.out (below1 w5 (.cells #[.bool (decide (vb < 0)), .slice A5 (digs vb.natAbs).length c5] 24))) hb)
  clear fx0 fx1 xx
  have Ry_6 := Lib.hid (cells_of (heap_alloc_new w5 (.cells #[.bool (decide (vb < 0)), .slice A5 (digs vb.natAbs).length c5] 24)) hb)
  clear hb hd
  go_wp2_with fail
  refine (zsmall_z (q := s1) (ok := true) (L6.out.get (A := A6) (c := c6) (xs := (digs (s1).natAbs)) (by simp)) (sg_z _) (le6 lbs1.out) SS1.out.1 SS1.out.2).mono ?_
  rintro e w7 ⟨rfl, hb⟩
  have L7 := Lib.hid (L6.out.step hb)
  have Rx_7 := Lib.hid (cells_of Rx_6.out hb)
  have Ry_7 := Lib.hid (cells_of Ry_6.out hb)
  clear hb 
  have fx0 := cell_of_row w7 _ 0 _ _ _ Rx_7.out
  have fx1 := cell_of_row w7 _ 1 _ _ _ Rx_7.out
  have xx := heap_lt Rx_7.out
  have fy0 := cell_of_row w7 _ 0 _ _ _ Ry_7.out
  have fy1 := cell_of_row w7 _ 1 _ _ _ Ry_7.out
  have xy := heap_lt Ry_7.out
  simp only [List.getElem?_toArray, List.getElem?_cons_zero, List.getElem?_cons_succ] at fx0 fx1 fy0 fy1
  go_wp2_with fail
  refine (zsub_v (z := e1) (L7.out.get (A := A4) (c := c4) (xs := (digs (va).natAbs)) (by simp)) (L7.out.get (A := A5) (c := c5) (xs := (digs (vb).natAbs)) (by simp)) (sg_z _) (sg_z _) (le6 lbva.out) (le6 lbvb.out) HE1.out).mono ?_
  rintro e w8 ⟨A8, c8, rfl, hd, hb⟩
  have L8 := Lib.hid ((L7.out.step hb).add hd)
  have Rx_8 := Lib.hid (cells_of Rx_7.out hb)
  have Ry_8 := Lib.hid (cells_of Ry_7.out hb)
  clear fx0 fx1 xx fy0 fy1 xy
  clear hb hd
  go_wp2_with fail
  refine (zsmall_z (q := e1) (ok := true) (L8.out.get (A := A8) (c := c8) (xs := (digs (e1).natAbs)) (by simp)) (sg_z _) (le6 lbe1.out) SE1.out.1 SE1.out.2).mono ?_
  rintro e w9 ⟨rfl, hb⟩
  have L9 := Lib.hid (L8.out.step hb)
  have Rx_9 := Lib.hid (cells_of Rx_8.out hb)
  have Ry_9 := Lib.hid (cells_of Ry_8.out hb)
  clear hb 
  have fx0 := cell_of_row w9 _ 0 _ _ _ Rx_9.out
  have fx1 := cell_of_row w9 _ 1 _ _ _ Rx_9.out
  have xx := heap_lt Rx_9.out
  have fy0 := cell_of_row w9 _ 0 _ _ _ Ry_9.out
  have fy1 := cell_of_row w9 _ 1 _ _ _ Ry_9.out
  have xy := heap_lt Ry_9.out
  simp only [List.getElem?_toArray, List.getElem?_cons_zero, List.getElem?_cons_succ] at fx0 fx1 fy0 fy1
  go_wp2_with fail
  refine (zmul_v (z := p1) (L9.out.get (A := A4) (c := c4) (xs := (digs (va).natAbs)) (by simp)) (L9.out.get (A := A5) (c := c5) (xs := (digs (vb).natAbs)) (by simp)) (sg_z _) (sg_z _) (le6 lbva.out) (le6 lbvb.out) HP1.out).mono ?_
  rintro e w10 ⟨A10, c10, rfl, hd, hb⟩
  have L10 := Lib.hid ((L9.out.step hb).add hd)
  have Rx_10 := Lib.hid (cells_of Rx_9.out hb)
  have Ry_10 := Lib.hid (cells_of Ry_9.out hb)
  clear fx0 fx1 xx fy0 fy1 xy
  clear hb hd
  go_wp2_with fail
  refine (zsmall_z (q := p1) (ok := true) (L10.out.get (A := A10) (c := c10) (xs := (digs (p1).natAbs)) (by simp)) (sg_z _) (le6 lbp1.out) SP1.out.1 SP1.out.2).mono ?_
  rintro e w11 ⟨rfl, hb⟩
  have L11 := Lib.hid (L10.out.step hb)
  have Rx_11 := Lib.hid (cells_of Rx_10.out hb)
  have Ry_11 := Lib.hid (cells_of Ry_10.out hb)
  clear hb 
  have fx0 := cell_of_row w11 _ 0 _ _ _ Rx_11.out
  have fx1 := cell_of_row w11 _ 1 _ _ _ Rx_11.out
  have xx := heap_lt Rx_11.out
  have fy0 := cell_of_row w11 _ 0 _ _ _ Ry_11.out
  have fy1 := cell_of_row w11 _ 1 _ _ _ Ry_11.out
  have xy := heap_lt Ry_11.out
  simp only [List.getElem?_toArray, List.getElem?_cons_zero, List.getElem?_cons_succ] at fx0 fx1 fy0 fy1
  go_wp2_with fail
  refine (zdiv_z (u := dq) (v := dr) (L11.out.get (A := A4) (c := c4) (xs := (digs (va).natAbs)) (by simp)) (L11.out.get (A := A5) (c := c5) (xs := (digs (vb).natAbs)) (by simp)) (sg_z _) (sg_z _) (le6 lbva.out) (le6 lbvb.out) VB.out HDQ.out HDR.out).mono ?_
  rintro e w12 ⟨A12, c12, B12, d12, rfl, hd, hd', hb⟩
  have L12 := Lib.hid (((L11.out.step hb).add hd).add hd')
  have Rx_12 := Lib.hid (cells_of Rx_11.out hb)
  have Ry_12 := Lib.hid (cells_of Ry_11.out hb)
  clear fx0 fx1 xx fy0 fy1 xy
  clear hb hd hd'
  go_wp2_with fail
  obtain ⟨w13, hW⟩ : ∃ W : World, W = ((w12.alloc (.cells #[.bool (decide (dq < 0)), .slice A12 (digs dq.natAbs).length c12] 24)).alloc (.cells #[.bool (decide (dr < 0)), .slice B12 (digs dr.natAbs).length d12] 24)) := ⟨_, rfl⟩
  rw [← hW]
  have hb : Below w12.heap.size w12 w13 := by rw [hW]; exact below2 _ _ _
  have L13 := Lib.hid (L12.out.step hb)
  have Rx_13 := Lib.hid (cells_of Rx_12.out hb)
  have Ry_13 := Lib.hid (cells_of Ry_12.out hb)
  have Rq_13 := Lib.hid (show w13.heap[w12.heap.size]? = some (.cells #[.bool (decide (dq < 0)), .slice A12 (digs dq.natAbs).length c12] 24 (0, 0)) by rw [hW]; exact heap_alloc2_old _ _ _)
  have Rr_13 := Lib.hid (show w13.heap[w12.heap.size + 1]? = some (.cells #[.bool (decide (dr < 0)), .slice B12 (digs dr.natAbs).length d12] 24 (0, 0)) by rw [hW]; exact heap_alloc2_new _ _ _)
  clear hW hb
  have fx0 := cell_of_row w13 _ 0 _ _ _ Rx_13.out
  have fx1 := cell_of_row w13 _ 1 _ _ _ Rx_13.out
  have xx := heap_lt Rx_13.out
  simp only [List.getElem?_toArray, List.getElem?_cons_zero, List.getElem?_cons_succ] at fx0 fx1
  have KD := Lib.hid (bd0 w13)
  have LD := Lib.hid (L13.out.step KD.out)
  go_region_held3 (fun w' => ∀ b o, b < w13.heap.size → w'.cell? ⟨b, o, none⟩ = w13.cell? ⟨b, o, none⟩)
    (first | with_reducible exact (bcell KD.out).1 | with_reducible exact (bcell K15.out).1 | with_reducible exact (bcell K16.out).1 | with_reducible exact (bcell K17.out).1)
    (first
      | (go_at_call_of 21 A4; (with_reducible refine (zneg_v (z := k1) (LD.out.get (A := A4) (c := c4) (xs := (digs (va).natAbs)) (by simp)) (sg_z _) (le6 lbva.out) HK1.out).mono ?_); rintro e w15 ⟨A15, c15, rfl, hd, hb⟩; (have K15 := Lib.hid (KD.out.trans (hb.mono KD.out.size))); (have L15 := Lib.hid ((LD.out.step hb).add hd)); clear hb hd)
      | (go_at_call_of 21 A15; (with_reducible refine (zneg_v (z := k2) (L15.out.get (A := A15) (c := c15) (xs := (digs (k1).natAbs)) (by simp)) (sg_z _) (le6 lbk1.out) HK2.out).mono ?_); rintro e w16 ⟨A16, c16, rfl, hd, hb⟩; (have K16 := Lib.hid (K15.out.trans (hb.mono K15.out.size))); (have L16 := Lib.hid ((L15.out.step hb).add hd)); clear hb hd)
      | (go_at_call 14; (with_reducible refine (same_z (x := k2) (y := va) (L16.out.get (A := A16) (c := c16) (xs := (digs (k2).natAbs)) (by simp)) (L16.out.get (A := A4) (c := c4) (xs := (digs (va).natAbs)) (by simp)) (Nat.le_trans lbk2.out (by omega)) EB.out).mono ?_); rintro e w17 ⟨rfl, hb⟩; (have K17 := Lib.hid (K16.out.trans (hb.mono K16.out.size))); (have L17 := Lib.hid (L16.out.step hb)); clear hb ))
  clear fx0 fx1 xx
  have Rx_17 := Lib.hid (cells_of Rx_13.out K17.out)
  have Ry_17 := Lib.hid (cells_of Ry_13.out K17.out)
  have Rq_17 := Lib.hid (cells_of Rq_13.out K17.out)
  have Rr_17 := Lib.hid (cells_of Rr_13.out K17.out)
  clear KD LD
  have fq0 := cell_of_row w17 _ 0 _ _ _ Rq_17.out
  have fq1 := cell_of_row w17 _ 1 _ _ _ Rq_17.out
  have xq := heap_lt Rq_17.out
  simp only [List.getElem?_toArray, List.getElem?_cons_zero, List.getElem?_cons_succ] at fq0 fq1
  go_wp2_with fail
  refine (zsmall_z (q := dq) (ok := true) (L17.out.get (A := A12) (c := c12) (xs := (digs (dq).natAbs)) (by simp)) (sg_z _) (le6 lbdq.out) SDQ.out.1 SDQ.out.2).mono ?_
  rintro e w18 ⟨rfl, hb⟩
  have L18 := Lib.hid (L17.out.step hb)
  have Rx_18 := Lib.hid (cells_of Rx_17.out hb)
  have Ry_18 := Lib.hid (cells_of Ry_17.out hb)
  have Rq_18 := Lib.hid (cells_of Rq_17.out hb)
  have Rr_18 := Lib.hid (cells_of Rr_17.out hb)
  clear fq0 fq1 xq
  clear hb 
  have fr0 := cell_of_row w18 _ 0 _ _ _ Rr_18.out
  have fr1 := cell_of_row w18 _ 1 _ _ _ Rr_18.out
  have xr := heap_lt Rr_18.out
  simp only [List.getElem?_toArray, List.getElem?_cons_zero, List.getElem?_cons_succ] at fr0 fr1
  go_wp2_with fail
  refine (zsmall_z (q := dr) (ok := true) (L18.out.get (A := B12) (c := d12) (xs := (digs (dr).natAbs)) (by simp)) (sg_z _) (le6 lbdr.out) SDR.out.1 SDR.out.2).mono ?_
  rintro e w19 ⟨rfl, hb⟩
  have L19 := Lib.hid (L18.out.step hb)
  have Rx_19 := Lib.hid (cells_of Rx_18.out hb)
  have Ry_19 := Lib.hid (cells_of Ry_18.out hb)
  have Rq_19 := Lib.hid (cells_of Rq_18.out hb)
  have Rr_19 := Lib.hid (cells_of Rr_18.out hb)
  clear fr0 fr1 xr
  clear hb 
  go_wp2
  go_ret
  exact ⟨rfl, L19.out.1⟩
end Go.Proofs.YthgkdpfkaobgoaaDoor
end

section
/-
  The law ZintSmalls of chapter 4, for every argument.
-/
namespace Go.Proofs.YthgkdpfkaobgoaaDoor
open Go.RowKit
theorem zsmalls_any (n a b : Int) (n0 : -9223372036854775808 ≤ n) (n9 : n ≤ 9223372036854775807) (a0 : -2147483648 ≤ a) (a9 : a ≤ 2147483647) (b0 : -2147483648 ≤ b) (b9 : b ≤ 2147483647) (w : World) (htab : P10 w) :
    Calls Tryd.prog 11 #[.int .i64 n, .int .i32 a, .int .i32 b] w fun e w' => e = .returned (.bool true) ∧ Below w.heap.size w w' := by
  by_cases h0 : b = 0
  · exact zsmalls_no n a b n0 n9 a0 a9 b0 b9 h0 w htab
  · by_cases h1 : Int.tmod a b = 0
    · exact zsmalls_ex n a b n0 n9 a0 a9 b0 b9 h0 h1 w htab
    · by_cases h2 : a < 0
      · by_cases h3 : b < 0
        · exact zsmalls_nn n a b n0 n9 a0 a9 b0 b9 h0 h1 h2 h3 w htab
        · exact zsmalls_np n a b n0 n9 a0 a9 b0 b9 h0 h1 h2 h3 w htab
      · by_cases h3 : b < 0
        · exact zsmalls_pn n a b n0 n9 a0 a9 b0 b9 h0 h1 h2 h3 w htab
        · exact zsmalls_pp n a b n0 n9 a0 a9 b0 b9 h0 h1 h2 h3 w htab
end Go.Proofs.YthgkdpfkaobgoaaDoor
end

section
/-
  From a law's walk to its statement: what comes in is opened, read again behind the call, and handed on.
-/
namespace Go.Proofs.YthgkdpfkaobgoaaDoor
open Go.RowKit Go.WideShapes Go.ChangeShapes Go.ChangeAt
set_option maxRecDepth 100000
theorem own : ownKnob Tryd.prog.godebug = none := by kernel_rfl
theorem laidOut : laidOutB Tryd.prog = true := by kernel_rfl
theorem below_cell_lt {w : World} {b o : Nat} {v : Value} (h : w.cell? ⟨b, o, none⟩ = some v) : b < w.heap.size := by
  rcases Nat.lt_or_ge b w.heap.size with hlt | hge
  · exact hlt
  · have e := Array.getElem?_eq_none hge
    simp [World.cell?, e] at h
theorem cellsElem : Tryd.prog.cellsOf 75 = 1 := by kernel_rfl
/-- A slice of digits that came in. -/
theorem open_dg {H : Type} {enc : TypeId × Value → H} {W : World} {base : Nat} {spare : Nat → Bool} {held : Bool} {v : Value} {d : DataW H} {ps : List MemPlace}
    (hval : Value.okWide Tryd.prog W .any base 22 v) (hd : DataW.Trod enc Tryd.prog W 0 spare held 22 v d ps) : ∃ A c xs, v = .slice A xs.length c ∧ Dg W A c xs := by
  obtain ⟨a0, len, cap, rfl⟩ := okWide_slice Tryd.underlying22 hval
  obtain ⟨fuel, hf⟩ := hd
  rcases open_ints Tryd.underlying22 Tryd.underlying75 cellsElem hf with ⟨hcs, _⟩ | ⟨a, len', cap', zs, hcs, _, hl, hm, hz, _, hcell, hwz⟩
  · simp [Value.cells] at hcs
    obtain ⟨rfl, rfl, rfl⟩ := hcs
    exact ⟨none, 0, [], rfl, Dg.nil_ _ _⟩
  · simp [Value.cells] at hcs
    obtain ⟨rfl, rfl, rfl⟩ := hcs
    have hlz : len ≤ zs.length := by rw [hz]; split <;> omega
    have hn : ∀ n ∈ zs, 0 ≤ n ∧ n ≤ 4294967295 := fun n hn => by simpa [Lit.wf, IntKind.min, IntKind.max, IntKind.signed, IntKind.bits] using hwz n hn
    have hxl : ((zs.take len).map Int.toNat).length = len := by simp; omega
    refine ⟨some a, cap, (zs.take len).map Int.toNat, by rw [hxl], by rw [hxl]; exact hl, ?_, fun h0 => ?_⟩
    · intro x hx
      obtain ⟨z, hz', rfl⟩ := List.mem_map.1 hx
      have := hn z (List.mem_of_mem_take hz')
      omega
    · rw [hxl] at h0
      obtain ⟨b, off, spot⟩ := a
      have hspot : spot = none := by simpa [Addr.add] using World.cell?_spot (hcell 0 (by omega))
      subst hspot
      refine ⟨b, off, rfl, below_cell_lt (v := .int .u32 (zs.getD 0 0)) (o := off) (by have := hcell 0 (by omega); simpa [Addr.add] using this), fun j hj => ?_⟩
      rw [hxl] at hj
      have hc := hcell j (by omega)
      rw [Addr.add_lit] at hc
      rw [hc]
      have hjz : j < zs.length := by omega
      have hb := hn zs[j] (List.getElem_mem hjz)
      simp [hj, List.getElem?_eq_getElem hjz]
      omega
section
variable {H : Type} {enc : TypeId × Value → H} {P : Program}
/-- A law's end: true; older memory stays; each argument reads as it read. -/
theorem law_post {f : Func} {s : ChangeSpec} {W W' : World} {args : Array Value} {ds : List (DataW H)} {before : List MemPlace} {tb : TypeId}
    (hW : DataW.Whole enc P f.params.toList s.vars false W args.toList ds [] before) (hb : Below W.heap.size W W') (hv : s.vars = []) (hrt : f.resultTypes = #[tb]) (htb : P.underlying tb = some .bool)
    (hsr : (s.fn H (ds ++ [])).results = [.lit (.bool true)]) (hsv : (s.fn H (ds ++ [])).vars = [])
    (hargs : ∀ sp : Nat → Bool, (∀ p ∈ before, sp p.block = true) → DataW.TrodAll enc P W' 0 sp true f.params.toList args.toList (s.fn H (ds ++ [])).args before) :
    s.post enc P f false true false false W args (.bool true) W' := by
  have hlt : ∀ p ∈ before, p.block < W.heap.size := fun p hp => hW.lt p hp
  have hold : ∀ p ∈ before, (fun b => decide (b < W.heap.size)) p.block = true := fun p hp => by simpa using hlt p hp
  have hvars : ∀ sp : Nat → Bool, DataW.TrodVars enc P W' sp s.vars (s.fn H (ds ++ [])).vars [] := fun sp => by rw [hv, hsv]; rfl
  refine ⟨ds, [], before, [], before, [], hW, ?_, hargs _ hold, hvars _, World.keptBut_mono (fun p hp => ⟨hp, by simpa using hp⟩) (hb.frame (· ∈ before)), fun h => by cases h⟩
  rw [hrt, hsr]
  exact trodAll_cons_mk (shut_bool htb _) trodAll_mk0
end
/-- An argument reads behind the call as it read ahead of it. -/
theorem again {H : Type} {enc : TypeId × Value → H} {W W' : World} {t : TypeId} {v : Value} {d : DataW H} {ps : List MemPlace} (hr : Tryd.prog.readableRec t = true) (hrow : t < Tryd.prog.types.size)
    (h : DataW.Trod enc Tryd.prog W 0 (fun _ => true) true t v d ps) (hb : Below W.heap.size W W') (hlt : ∀ x ∈ ps, x.block < W.heap.size) (sp : Nat → Bool) (hsp : ∀ x ∈ ps, sp x.block = true) :
    DataW.Trod enc Tryd.prog W' 0 sp true t v d ps :=
  WideElems.Trod_stays laidOut hr hrow h (fun x hx => hb.same (hlt x hx)) hsp
end Go.Proofs.YthgkdpfkaobgoaaDoor
end

section
/-
  From a walk of layer 4 to its card: what the laid tables give, and a whole number that comes in.
-/
namespace Go.Proofs.YthgkdpfkaobgoaaDoor
open Go.RowKit Go.WideShapes Go.ChangeShapes Go.ChangeAt Go.Deep
set_option maxRecDepth 100000
theorem i64_lo {a : Int} (g : (Lit.int .i64 a).wf = true) : -9223372036854775808 ≤ a := by
  simp only [Lit.wf, Bool.and_eq_true, decide_eq_true_eq] at g; exact g.1
theorem i64_hi {a : Int} (g : (Lit.int .i64 a).wf = true) : a ≤ 9223372036854775807 := by
  simp only [Lit.wf, Bool.and_eq_true, decide_eq_true_eq] at g; exact g.2
theorem i32_lo {a : Int} (g : (Lit.int .i32 a).wf = true) : -2147483648 ≤ a := by
  simp only [Lit.wf, Bool.and_eq_true, decide_eq_true_eq] at g; exact g.1
theorem i32_hi {a : Int} (g : (Lit.int .i32 a).wf = true) : a ≤ 2147483647 := by
  simp only [Lit.wf, Bool.and_eq_true, decide_eq_true_eq] at g; exact g.2
theorem gPow : Tryd.prog.globalNamed "internal/strconv.uint64pow10" = some 1 := by kernel_rfl
theorem tPow : (Tryd.prog.globals[1]?).map (·.type) = some 127 := by kernel_rfl
/-- THE TABLE OF POWERS, out of the row's condition. -/
theorem p10_laid {W : World} {a b : String × DataW Unit} (h : laidMet Tryd.prog (a :: b :: ("internal/strconv.uint64pow10", Lib.tabData .u64 Lib.pow10Tab) :: []) W) : P10 W :=
  Lib.tabIs_of_head gPow tPow Tryd.underlying127 Tryd.underlying67 (by kernel_rfl) (by kernel_rfl) h.tail.tail
/-- Digits that came in as a part. -/
theorem open_dg0 {H : Type} {enc : TypeId × Value → H} {W : World} {spare : Nat → Bool} {held : Bool} {a0 : Option Addr} {len cap : Nat} {y : DataW H × List MemPlace}
    (hd : ∃ n, DataW.trod enc Tryd.prog W 0 spare held n 22 [.slice a0 len cap] = some y) : ∃ A c xs, Value.slice a0 len cap = .slice A xs.length c ∧ Dg W A c xs ∧ xs.length ≤ 9223372036854775807 := by
  obtain ⟨fuel, hf⟩ := hd
  obtain ⟨d, ps⟩ := y
  rcases open_ints Tryd.underlying22 Tryd.underlying75 cellsElem hf with ⟨hcs, _⟩ | ⟨a, len', cap', zs, hcs, _, hl, hm, hz, _, hcell, hwz⟩
  · simp at hcs
    obtain ⟨rfl, rfl, rfl⟩ := hcs
    exact ⟨none, 0, [], rfl, Dg.nil_ _ _, by simp⟩
  · simp at hcs
    obtain ⟨rfl, rfl, rfl⟩ := hcs
    have hlz : len ≤ zs.length := by rw [hz]; split <;> omega
    have hn : ∀ n ∈ zs, 0 ≤ n ∧ n ≤ 4294967295 := fun n hn => by simpa [Lit.wf, IntKind.min, IntKind.max, IntKind.signed, IntKind.bits] using hwz n hn
    have hxl : ((zs.take len).map Int.toNat).length = len := by simp; omega
    refine ⟨some a, cap, (zs.take len).map Int.toNat, by rw [hxl], ⟨by rw [hxl]; exact hl, ?_, fun h0 => ?_⟩, by rw [hxl]; unfold maxLen at hm; omega⟩
    · intro x hx
      obtain ⟨z, hz', rfl⟩ := List.mem_map.1 hx
      have := hn z (List.mem_of_mem_take hz')
      omega
    · rw [hxl] at h0
      obtain ⟨b, off, spot⟩ := a
      have hspot : spot = none := by simpa [Addr.add] using World.cell?_spot (hcell 0 (by omega))
      subst hspot
      refine ⟨b, off, rfl, below_cell_lt (v := .int .u32 (zs.getD 0 0)) (o := off) (by have := hcell 0 (by omega); simpa [Addr.add] using this), fun j hj => ?_⟩
      rw [hxl] at hj
      have hc := hcell j (by omega)
      rw [Addr.add_lit] at hc
      rw [hc]
      have hjz : j < zs.length := by omega
      have hb := hn zs[j] (List.getElem_mem hjz)
      simp [hj, List.getElem?_eq_getElem hjz]
      omega
/-- A whole number that came in. -/
theorem open_z {H : Type} {enc : TypeId × Value → H} {W : World} {base : Nat} {v : Value} {d : DataW H} {ps : List MemPlace}
    (hval : Value.okWide Tryd.prog W .any base 24 v) (hd : DataW.Trod enc Tryd.prog W 0 (fun _ => true) true 24 v d ps) :
    ∃ s A c xs, v = .agg #[.bool s, .slice A xs.length c] ∧ Dg W A c xs ∧ xs.length ≤ 9223372036854775807 := by
  obtain ⟨v0, v1, y0, y1, n, rfl, _, _, h0, h1⟩ := Go.Joins.open_agg2 Tryd.underlying24 (by kernel_rfl) (by kernel_rfl) hval hd
  obtain ⟨s, e0, _⟩ := DataW.trod_bool Tryd.underlying4 h0
  obtain rfl : v0 = .bool s := by simpa using e0
  obtain ⟨a0, len, cap, e1⟩ := Go.Joins.slice_form Tryd.underlying22 h1
  obtain rfl : v1 = .slice a0 len cap := by simpa using e1
  obtain ⟨A, c, xs, e, g⟩ := open_dg0 ⟨n, h1⟩
  exact ⟨s, A, c, xs, by rw [e], g⟩
end Go.Proofs.YthgkdpfkaobgoaaDoor
end
