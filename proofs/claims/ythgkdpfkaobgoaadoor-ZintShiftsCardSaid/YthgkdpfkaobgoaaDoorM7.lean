import Derived.Test.YthgkdpfkaobgoaaDoorM6
import Derived.Test.YthgkdpfkaobgoaaDoorRows
import Derived.Test.YthgkdpfkaobgoaaDoorM0
import Derived.WalkKit
import Derived.ProofKit
import Derived.OpenShut
import Derived.ChangeSame
import Derived.Test.YthgkdpfkaobgoaaDoorM5
import Derived.LaidMore
import Derived.Stop.Joined
import Derived.Stop.LaidErr
import Derived.Lib.SmallJoins
section
/-
  The law ZintShifts of chapter 4, walked.
-/
namespace Go.Proofs.YthgkdpfkaobgoaaDoor
open Go.RowKit
set_option maxHeartbeats 16000000 in
set_option maxRecDepth 100000 in
theorem zshifts_pp (Ax : Option Addr) (cx : Nat) (sx : Bool) (xsx : List Nat) (n m : Int) (n0 : -9223372036854775808 ≤ n) (n9 : n ≤ 9223372036854775807) (m0 : -9223372036854775808 ≤ m) (m9 : m ≤ 9223372036854775807) (cn : n ≥ 0) (cm : m ≥ 0) (w : World) (hx : Dg w Ax cx xsx) (htab : P10 w) :
    Calls Tryd.prog 9 #[.agg #[.bool sx, .slice Ax xsx.length cx], .int .i64 n, .int .i64 m] w fun e w' => e = .returned (.bool true) ∧ Below w.heap.size w w' := by
  obtain ⟨tx, htx⟩ : ∃ t, xsx.take 20 = t := ⟨_, rfl⟩
  have blx : tx.length ≤ 20 := by rw [← htx]; exact List.length_take_le _ _
  have TTx := Lib.hid htx
  obtain ⟨vx, hvx⟩ := is_z (sg sx (val tx))
  have bzx : (digs vx.natAbs).length ≤ 20 := Nat.le_trans (zlen_raw (by rw [← htx]; exact (hx.take 20).2.1) hvx) blx
  have HVx := Lib.hid hvx
  clear hvx htx
  have dn : decide (n < 0) = false := by simp; omega
  have bn1 : 0 ≤ n ∧ n ≤ 9223372036854775807 := by omega
  obtain ⟨n2, hn2⟩ : ∃ t : Int, Int.tmod n 501 = t := ⟨_, rfl⟩
  have bn2 : 0 ≤ n2 ∧ n2 ≤ 500 := by rw [← hn2, Int.tmod_eq_emod_of_nonneg bn1.1]; omega
  have BN := Lib.hid bn2
  have en3 : IntKind.i64.wrap (Int.tmod n 501) = n2 := by rw [hn2]; exact IntWalk.i64_in _ ⟨by omega, by omega⟩
  have wn3 : wrap64 (Int.tmod n 501) = n2 := by rw [hn2]; exact IntWalk.wrap64_in _ ⟨by omega, by omega⟩
  have en5 : Int.tmod n 501 = n2 := hn2
  clear hn2
  clear bn1
  have dm : decide (m < 0) = false := by simp; omega
  have bm1 : 0 ≤ m ∧ m ≤ 9223372036854775807 := by omega
  obtain ⟨m2, hm2⟩ : ∃ t : Int, Int.tmod m 501 = t := ⟨_, rfl⟩
  have bm2 : 0 ≤ m2 ∧ m2 ≤ 500 := by rw [← hm2, Int.tmod_eq_emod_of_nonneg bm1.1]; omega
  have BM := Lib.hid bm2
  have em3 : IntKind.i64.wrap (Int.tmod m 501) = m2 := by rw [hm2]; exact IntWalk.i64_in _ ⟨by omega, by omega⟩
  have wm3 : wrap64 (Int.tmod m 501) = m2 := by rw [hm2]; exact IntWalk.wrap64_in _ ⟨by omega, by omega⟩
  have em5 : Int.tmod m 501 = m2 := hm2
  clear hm2
  clear bm1
  clear n0 n9 m0 m9 cn cm
  have hwn : IntKind.i64.wrap (-n2) = -n2 := IntWalk.i64_in _ ⟨by omega, by omega⟩
  obtain ⟨nn, hnn⟩ := is_z (-n2)
  have HNN := Lib.hid hnn
  obtain ⟨mm, hmm⟩ := is_z (-m2)
  have HMM := Lib.hid hmm
  obtain ⟨am, ham⟩ := is_z (-n2 - m2)
  have HAM := Lib.hid ham
  have en4 : IntKind.i64.wrap (-n2) = nn := by rw [IntWalk.i64_in _ ⟨by omega, by omega⟩]; exact hnn
  have wn4 : wrap64 (-n2) = nn := by rw [IntWalk.wrap64_in _ ⟨by omega, by omega⟩]; exact hnn
  have em4 : IntKind.i64.wrap (-m2) = mm := by rw [IntWalk.i64_in _ ⟨by omega, by omega⟩]; exact hmm
  have wm4 : wrap64 (-m2) = mm := by rw [IntWalk.wrap64_in _ ⟨by omega, by omega⟩]; exact hmm
  have ea4 : IntKind.i64.wrap (nn - m2) = am := by rw [IntWalk.i64_in _ ⟨by omega, by omega⟩]; omega
  have wa4 : wrap64 (nn - m2) = am := by rw [IntWalk.wrap64_in _ ⟨by omega, by omega⟩]; omega
  clear hnn hmm ham hwn bn2 bm2
  obtain ⟨up, hup⟩ := is_z (vx * 2 ^ n2.toNat)
  have bup : (digs up.natAbs).length ≤ 40 := by rw [← hup]; have := zlen_up vx n2.toNat; have := BN.out; omega
  have HUP := Lib.hid hup
  clear hup
  obtain ⟨bk, hbk⟩ := is_z (up / 2 ^ n2.toNat)
  have bbk : (digs bk.natAbs).length ≤ 40 := by rw [← hbk]; have := zlen_dn up n2.toNat; omega
  have HBK := Lib.hid hbk
  clear hbk
  obtain ⟨dn_, hdn_⟩ := is_z (vx / 2 ^ n2.toNat)
  have bdn_ : (digs dn_.natAbs).length ≤ 20 := by rw [← hdn_]; have := zlen_dn vx n2.toNat; omega
  have HDN_ := Lib.hid hdn_
  clear hdn_
  obtain ⟨z1, hz1⟩ := is_z ((1 : Int))
  have bz1 : (digs z1.natAbs).length ≤ 1 := by rw [← hz1]; have := show (digs (1 : Int).natAbs).length ≤ 1 from digs_one_len; omega
  have HZ1 := Lib.hid hz1
  clear hz1
  obtain ⟨pw, hpw⟩ := is_z (z1 * 2 ^ n2.toNat)
  have bpw : (digs pw.natAbs).length ≤ 40 := by rw [← hpw]; have := zlen_up z1 n2.toNat; have := BN.out; omega
  have HPW := Lib.hid hpw
  clear hpw
  obtain ⟨dq, hdq⟩ := is_z (Int.fdiv vx pw)
  have bdq : (digs dq.natAbs).length ≤ 20 := by rw [← hdq]; have := zlen_fdiv vx pw; omega
  have HDQ := Lib.hid hdq
  clear hdq
  obtain ⟨dr, hdr⟩ := is_z (divr vx pw)
  have bdr : (digs dr.natAbs).length ≤ 40 := by rw [← hdr]; have := zlen_divr vx pw; omega
  have HDR := Lib.hid hdr
  clear hdr
  obtain ⟨mo, hmo⟩ := is_z (dn_ / 2 ^ m2.toNat)
  have bmo : (digs mo.natAbs).length ≤ 20 := by rw [← hmo]; have := zlen_dn dn_ m2.toNat; omega
  have HMO := Lib.hid hmo
  clear hmo
  obtain ⟨al, hal⟩ := is_z (vx / 2 ^ (n2 + m2).toNat)
  have bal : (digs al.natAbs).length ≤ 20 := by rw [← hal]; have := zlen_dn vx (n2 + m2).toNat; omega
  have HAL := Lib.hid hal
  clear hal
  have U1 := Lib.hid (show shz vx n2 = up by rw [shz_up BN.out.1 (by have := BN.out.2; omega)]; exact HUP.out)
  have U2 := Lib.hid (show shb n2 = true from shb_in (by have := BN.out; omega) (by have := BN.out; omega))
  have V1 := Lib.hid (show shz up nn = bk by rw [shz_dn HNN.out.symm BN.out.1 (by have := BN.out.2; omega)]; exact HBK.out)
  have V2 := Lib.hid (show shb nn = true from shb_in (by have := BN.out; have := HNN.out; omega) (by have := BN.out; have := HNN.out; omega))
  have W1 := Lib.hid (show shz vx nn = dn_ by rw [shz_dn HNN.out.symm BN.out.1 (by have := BN.out.2; omega)]; exact HDN_.out)
  have X1 := Lib.hid (show shz z1 n2 = pw by rw [shz_up BN.out.1 (by have := BN.out.2; omega)]; exact HPW.out)
  have PP := Lib.hid (show (2 : Int) ^ n2.toNat ≠ 0 from Int.ne_of_gt (Int.pow_pos (by omega)))
  have PW := Lib.hid (show pw = 2 ^ n2.toNat by rw [← HPW.out, ← HZ1.out, Int.one_mul])
  have OKD := Lib.hid (show decide (pw ≠ 0) = true from decide_eq_true (by rw [PW.out]; exact PP.out))
  have Y1 := Lib.hid (show shz dn_ mm = mo by rw [shz_dn HMM.out.symm BM.out.1 (by have := BM.out.2; omega)]; exact HMO.out)
  have Y2 := Lib.hid (show shb mm = true from shb_in (by have := BM.out; have := HMM.out; omega) (by have := BM.out; have := HMM.out; omega))
  have Z1 := Lib.hid (show shz vx am = al by rw [shz_dn (k := n2 + m2) (by have := HAM.out; omega) (by have := BN.out; have := BM.out; omega) (by have := BN.out; have := BM.out; omega)]; exact HAL.out)
  have Z2 := Lib.hid (show shb am = true from shb_in (by have := BN.out; have := BM.out; have := HAM.out; omega) (by have := BN.out; have := BM.out; have := HAM.out; omega))
  have E1 := Lib.hid (show bk = vx by rw [← HBK.out, ← HUP.out]; exact Int.mul_ediv_cancel _ PP.out)
  have E2 := Lib.hid (show dn_ = dq by rw [← HDN_.out, ← HDQ.out, PW.out]; exact (fdiv_pow vx _).symm)
  have E3 := Lib.hid (show mo = al by rw [← HMO.out, ← HAL.out, ← HDN_.out]; exact two_ways vx BN.out.1 BM.out.1)
  have lbx := Lib.hid (show (tx).length ≤ 100000 by omega)
  have lbup := Lib.hid (show (digs up.natAbs).length ≤ 100000 by omega)
  have lbbk := Lib.hid (show (digs bk.natAbs).length ≤ 100000 by omega)
  have lbdn_ := Lib.hid (show (digs dn_.natAbs).length ≤ 100000 by omega)
  have lbz1 := Lib.hid (show (digs z1.natAbs).length ≤ 100000 by omega)
  have lbpw := Lib.hid (show (digs pw.natAbs).length ≤ 100000 by omega)
  have lbdq := Lib.hid (show (digs dq.natAbs).length ≤ 100000 by omega)
  have lbdr := Lib.hid (show (digs dr.natAbs).length ≤ 100000 by omega)
  have lbmo := Lib.hid (show (digs mo.natAbs).length ≤ 100000 by omega)
  have lbal := Lib.hid (show (digs al.natAbs).length ≤ 100000 by omega)
  have lbvx := Lib.hid (show (digs vx.natAbs).length ≤ 100000 by omega)
  have HT := Lib.hid htab
  clear htab
  have EX := Lib.hid (fun V hv => examples_any V hv)
  go_enter Tryd.func9, Tryd.ntmps9
  go_upto_region 1 with fail
  obtain ⟨w0, hW⟩ : ∃ W : World, W = (w.alloc (.cells #[.bool sx, .slice Ax xsx.length cx] 24)) := ⟨_, rfl⟩
  rw [← hW]
  have hb : Below w.heap.size w w0 := by rw [hW]; exact below1 w _
  have L0 := Lib.hid (((((live_start w).step hb).add (hx.below hb)).add (show Dg w0 Ax cx tx by rw [← TTx.out]; exact (hx.below hb).take 20)))
  have Rx_0 := Lib.hid (show w0.heap[w.heap.size]? = some (.cells #[.bool sx, .slice Ax xsx.length cx] 24 (0, 0)) by rw [hW]; have := heap_alloc_new w (.cells #[.bool sx, .slice Ax xsx.length cx] 24); simpa using this)
  clear hW hb hx
  go_wp2_with fail
  refine (EX.out w0 (p10_below HT.out L0.out.1)).mono ?_
  rintro e w1 ⟨rfl, hb⟩
  have L1 := Lib.hid (L0.out.step hb)
  have Rx_1 := Lib.hid (cells_of Rx_0.out hb)
  clear hb 
  have fx0 := cell_of_row w1 _ 0 _ _ _ Rx_1.out
  have fx1 := cell_of_row w1 _ 1 _ _ _ Rx_1.out
  have xx := heap_lt Rx_1.out
  simp only [List.getElem?_toArray, List.getElem?_cons_zero, List.getElem?_cons_succ] at fx0 fx1
  go_wp2_with fail
  refine (lshort_v (s := sx) (L1.out.get (by simp)) (by omega) TTx.out).mono ?_
  rintro e w2 ⟨rfl, hb⟩
  have L2 := Lib.hid (L1.out.step hb)
  have Rx_2 := Lib.hid (cells_of Rx_1.out hb)
  clear fx0 fx1 xx
  clear hb 
  go_wp2_with fail
  have Lx3 := Lib.hid (L2.out.step (below1 w2 (.cells #[.bool sx, .slice Ax tx.length cx] 24)))
  refine (zshift_w (q := up) (ok := true) (Lx3.out.get (A := Ax) (c := cx) (xs := tx) (by simp)) HVx.out (le6 lbx.out) U1.out U2.out).mono ?_
  rintro e w3 ⟨A3, c3, rfl, hd, hb⟩
  have L3 := Lib.hid ((Lx3.out.step hb).add hd)
  have Rx_3 := Lib.hid (cells_of (cells_of Rx_2.out (below1 w2 (.cells #[.bool sx, .slice Ax tx.length cx] 24))) hb)
  have Ra_3 := Lib.hid (cells_of (heap_alloc_new w2 (.cells #[.bool sx, .slice Ax tx.length cx] 24)) hb)
  clear hb hd
  have fa0 := cell_of_row w3 _ 0 _ _ _ Ra_3.out
  have fa1 := cell_of_row w3 _ 1 _ _ _ Ra_3.out
  have xa := heap_lt Ra_3.out
  simp only [List.getElem?_toArray, List.getElem?_cons_zero, List.getElem?_cons_succ] at fa0 fa1
  go_wp2_with fail
  have Lx4 := Lib.hid (L3.out.step (below1 w3 (.cells #[.bool (decide (up < 0)), .slice A3 (digs up.natAbs).length c3] 24)))
  refine (zshift_w (q := bk) (ok := true) (Lx4.out.get (A := A3) (c := c3) (xs := (digs (up).natAbs)) (by simp)) (sg_z _) (le6 lbup.out) V1.out V2.out).mono ?_
  rintro e w4 ⟨A4, c4, rfl, hd, hb⟩
  have L4 := Lib.hid ((Lx4.out.step hb).add hd)
  have Rx_4 := Lib.hid (cells_of (cells_of Rx_3.out (below1 w3 (.cells #[.bool (decide (up < 0)), .slice A3 (digs up.natAbs).length c3] 24))) hb)
  have Ra_4 := Lib.hid (cells_of (cells_of Ra_3.out (below1 w3 (.cells #[.bool (decide (up < 0)), .slice A3 (digs up.natAbs).length c3] 24))) hb)
  clear fa0 fa1 xa
  have Ru_4 := Lib.hid (cells_of (heap_alloc_new w3 (.cells #[.bool (decide (up < 0)), .slice A3 (digs up.natAbs).length c3] 24)) hb)
  clear hb hd
  have fa0 := cell_of_row w4 _ 0 _ _ _ Ra_4.out
  have fa1 := cell_of_row w4 _ 1 _ _ _ Ra_4.out
  have xa := heap_lt Ra_4.out
  simp only [List.getElem?_toArray, List.getElem?_cons_zero, List.getElem?_cons_succ] at fa0 fa1
  go_wp2_with fail
  have Lx5 := Lib.hid (L4.out.step (below1 w4 (.cells #[.bool (decide (bk < 0)), .slice A4 (digs bk.natAbs).length c4] 24)))
  refine (zshift_w (q := dn_) (ok := true) (Lx5.out.get (A := Ax) (c := cx) (xs := tx) (by simp)) HVx.out (le6 lbx.out) W1.out V2.out).mono ?_
  rintro e w5 ⟨A5, c5, rfl, hd, hb⟩
  have L5 := Lib.hid ((Lx5.out.step hb).add hd)
  have Rx_5 := Lib.hid (cells_of (cells_of Rx_4.out (below1 w4 (.cells #[.bool (decide (bk < 0)), .slice A4 (digs bk.natAbs).length c4] 24))) hb)
  have Ra_5 := Lib.hid (cells_of (cells_of Ra_4.out (below1 w4 (.cells #[.bool (decide (bk < 0)), .slice A4 (digs bk.natAbs).length c4] 24))) hb)
  have Ru_5 := Lib.hid (cells_of (cells_of Ru_4.out (below1 w4 (.cells #[.bool (decide (bk < 0)), .slice A4 (digs bk.natAbs).length c4] 24))) hb)
  clear fa0 fa1 xa
  have Rv_5 := Lib.hid (cells_of (heap_alloc_new w4 (.cells #[.bool (decide (bk < 0)), .slice A4 (digs bk.natAbs).length c4] 24)) hb)
  clear hb hd
  go_wp2_with fail
  have Lx6 := Lib.hid (L5.out.step (below1 w5 (.cells #[.bool (decide (dn_ < 0)), .slice A5 (digs dn_.natAbs).length c5] 24)))
  refine (zfrom_z (x := z1) HZ1.out (by have := HZ1.out; omega) (by have := HZ1.out; omega)).mono ?_
  rintro e w6 ⟨A6, c6, rfl, hd, hb⟩
  have L6 := Lib.hid ((Lx6.out.step hb).add hd)
  have Rx_6 := Lib.hid (cells_of (cells_of Rx_5.out (below1 w5 (.cells #[.bool (decide (dn_ < 0)), .slice A5 (digs dn_.natAbs).length c5] 24))) hb)
  have Ra_6 := Lib.hid (cells_of (cells_of Ra_5.out (below1 w5 (.cells #[.bool (decide (dn_ < 0)), .slice A5 (digs dn_.natAbs).length c5] 24))) hb)
  have Ru_6 := Lib.hid (cells_of (cells_of Ru_5.out (below1 w5 (.cells #[.bool (decide (dn_ < 0)), .slice A5 (digs dn_.natAbs).length c5] 24))) hb)
  have Rv_6 := Lib.hid (cells_of (cells_of Rv_5.out (below1 w5 (.cells #[.bool (decide (dn_ < 0)), .slice A5 (digs dn_.natAbs).length c5] 24))) hb)
  have Rd_6 := Lib.hid (cells_of (heap_alloc_new w5 (.cells #[.bool (decide (dn_ < 0)), .slice A5 (digs dn_.natAbs).length c5] 24)) hb)
  clear hb hd
  go_wp2_with fail
  refine (zshift_w (q := pw) (ok := true) (L6.out.get (A := A6) (c := c6) (xs := (digs (z1).natAbs)) (by simp)) (sg_z _) (le6 lbz1.out) X1.out U2.out).mono ?_
  rintro e w7 ⟨A7, c7, rfl, hd, hb⟩
  have L7 := Lib.hid ((L6.out.step hb).add hd)
  have Rx_7 := Lib.hid (cells_of Rx_6.out hb)
  have Ra_7 := Lib.hid (cells_of Ra_6.out hb)
  have Ru_7 := Lib.hid (cells_of Ru_6.out hb)
  have Rv_7 := Lib.hid (cells_of Rv_6.out hb)
  have Rd_7 := Lib.hid (cells_of Rd_6.out hb)
  clear hb hd
  have fa0 := cell_of_row w7 _ 0 _ _ _ Ra_7.out
  have fa1 := cell_of_row w7 _ 1 _ _ _ Ra_7.out
  have xa := heap_lt Ra_7.out
  simp only [List.getElem?_toArray, List.getElem?_cons_zero, List.getElem?_cons_succ] at fa0 fa1
  go_wp2_with fail
  have Lx8 := Lib.hid (L7.out.step (below1 w7 (.cells #[.bool (decide (pw < 0)), .slice A7 (digs pw.natAbs).length c7] 24)))
  refine (zdiv_w (u := dq) (v := dr) (ok := true) (Lx8.out.get (A := Ax) (c := cx) (xs := tx) (by simp)) (Lx8.out.get (A := A7) (c := c7) (xs := (digs (pw).natAbs)) (by simp)) HVx.out (sg_z _) (le6 lbx.out) (le6 lbpw.out) HDQ.out HDR.out OKD.out).mono ?_
  rintro e w8 ⟨A8, c8, B8, d8, rfl, hd, hd', hb⟩
  have L8 := Lib.hid (((Lx8.out.step hb).add hd).add hd')
  have Rx_8 := Lib.hid (cells_of (cells_of Rx_7.out (below1 w7 (.cells #[.bool (decide (pw < 0)), .slice A7 (digs pw.natAbs).length c7] 24))) hb)
  have Ra_8 := Lib.hid (cells_of (cells_of Ra_7.out (below1 w7 (.cells #[.bool (decide (pw < 0)), .slice A7 (digs pw.natAbs).length c7] 24))) hb)
  have Ru_8 := Lib.hid (cells_of (cells_of Ru_7.out (below1 w7 (.cells #[.bool (decide (pw < 0)), .slice A7 (digs pw.natAbs).length c7] 24))) hb)
  have Rv_8 := Lib.hid (cells_of (cells_of Rv_7.out (below1 w7 (.cells #[.bool (decide (pw < 0)), .slice A7 (digs pw.natAbs).length c7] 24))) hb)
  have Rd_8 := Lib.hid (cells_of (cells_of Rd_7.out (below1 w7 (.cells #[.bool (decide (pw < 0)), .slice A7 (digs pw.natAbs).length c7] 24))) hb)
  clear fa0 fa1 xa
  have Rp_8 := Lib.hid (cells_of (heap_alloc_new w7 (.cells #[.bool (decide (pw < 0)), .slice A7 (digs pw.natAbs).length c7] 24)) hb)
  clear hb hd hd'
  have fd0 := cell_of_row w8 _ 0 _ _ _ Rd_8.out
  have fd1 := cell_of_row w8 _ 1 _ _ _ Rd_8.out
  have xd := heap_lt Rd_8.out
  simp only [List.getElem?_toArray, List.getElem?_cons_zero, List.getElem?_cons_succ] at fd0 fd1
  go_wp2_with fail
  have Lx9 := Lib.hid (L8.out.step (below2 w8 (.cells #[.bool (decide (dq < 0)), .slice A8 (digs dq.natAbs).length c8] 24) (.cells #[.bool (decide (dr < 0)), .slice B8 (digs dr.natAbs).length d8] 24)))
  refine (zshift_w (q := mo) (ok := true) (Lx9.out.get (A := A5) (c := c5) (xs := (digs (dn_).natAbs)) (by simp)) (sg_z _) (le6 lbdn_.out) Y1.out Y2.out).mono ?_
  rintro e w9 ⟨A9, c9, rfl, hd, hb⟩
  have L9 := Lib.hid ((Lx9.out.step hb).add hd)
  have Rx_9 := Lib.hid (cells_of (cells_of Rx_8.out (below2 w8 (.cells #[.bool (decide (dq < 0)), .slice A8 (digs dq.natAbs).length c8] 24) (.cells #[.bool (decide (dr < 0)), .slice B8 (digs dr.natAbs).length d8] 24))) hb)
  have Ra_9 := Lib.hid (cells_of (cells_of Ra_8.out (below2 w8 (.cells #[.bool (decide (dq < 0)), .slice A8 (digs dq.natAbs).length c8] 24) (.cells #[.bool (decide (dr < 0)), .slice B8 (digs dr.natAbs).length d8] 24))) hb)
  have Ru_9 := Lib.hid (cells_of (cells_of Ru_8.out (below2 w8 (.cells #[.bool (decide (dq < 0)), .slice A8 (digs dq.natAbs).length c8] 24) (.cells #[.bool (decide (dr < 0)), .slice B8 (digs dr.natAbs).length d8] 24))) hb)
  have Rv_9 := Lib.hid (cells_of (cells_of Rv_8.out (below2 w8 (.cells #[.bool (decide (dq < 0)), .slice A8 (digs dq.natAbs).length c8] 24) (.cells #[.bool (decide (dr < 0)), .slice B8 (digs dr.natAbs).length d8] 24))) hb)
  have Rd_9 := Lib.hid (cells_of (cells_of Rd_8.out (below2 w8 (.cells #[.bool (decide (dq < 0)), .slice A8 (digs dq.natAbs).length c8] 24) (.cells #[.bool (decide (dr < 0)), .slice B8 (digs dr.natAbs).length d8] 24))) hb)
  have Rp_9 := Lib.hid (cells_of (cells_of Rp_8.out (below2 w8 (.cells #[.bool (decide (dq < 0)), .slice A8 (digs dq.natAbs).length c8] 24) (.cells #[.bool (decide (dr < 0)), .slice B8 (digs dr.natAbs).length d8] 24))) hb)
  clear fd0 fd1 xd
  have Rq_9 := Lib.hid (cells_of (heap_alloc2_old w8 (.cells #[.bool (decide (dq < 0)), .slice A8 (digs dq.natAbs).length c8] 24) (.cells #[.bool (decide (dr < 0)), .slice B8 (digs dr.natAbs).length d8] 24)) hb)
  have Rr_9 := Lib.hid (cells_of (heap_alloc2_new w8 (.cells #[.bool (decide (dq < 0)), .slice A8 (digs dq.natAbs).length c8] 24) (.cells #[.bool (decide (dr < 0)), .slice B8 (digs dr.natAbs).length d8] 24)) hb)
  clear hb hd
  have fa0 := cell_of_row w9 _ 0 _ _ _ Ra_9.out
  have fa1 := cell_of_row w9 _ 1 _ _ _ Ra_9.out
  have xa := heap_lt Ra_9.out
  simp only [List.getElem?_toArray, List.getElem?_cons_zero, List.getElem?_cons_succ] at fa0 fa1
  go_wp2_with fail
  have Lx10 := Lib.hid (L9.out.step (below1 w9 (.cells #[.bool (decide (mo < 0)), .slice A9 (digs mo.natAbs).length c9] 24)))
  refine (zshift_w (q := al) (ok := true) (Lx10.out.get (A := Ax) (c := cx) (xs := tx) (by simp)) HVx.out (le6 lbx.out) Z1.out Z2.out).mono ?_
  rintro e w10 ⟨A10, c10, rfl, hd, hb⟩
  have L10 := Lib.hid ((Lx10.out.step hb).add hd)
  have Rx_10 := Lib.hid (cells_of (cells_of Rx_9.out (below1 w9 (.cells #[.bool (decide (mo < 0)), .slice A9 (digs mo.natAbs).length c9] 24))) hb)
  have Ra_10 := Lib.hid (cells_of (cells_of Ra_9.out (below1 w9 (.cells #[.bool (decide (mo < 0)), .slice A9 (digs mo.natAbs).length c9] 24))) hb)
  have Ru_10 := Lib.hid (cells_of (cells_of Ru_9.out (below1 w9 (.cells #[.bool (decide (mo < 0)), .slice A9 (digs mo.natAbs).length c9] 24))) hb)
  have Rv_10 := Lib.hid (cells_of (cells_of Rv_9.out (below1 w9 (.cells #[.bool (decide (mo < 0)), .slice A9 (digs mo.natAbs).length c9] 24))) hb)
  have Rd_10 := Lib.hid (cells_of (cells_of Rd_9.out (below1 w9 (.cells #[.bool (decide (mo < 0)), .slice A9 (digs mo.natAbs).length c9] 24))) hb)
  have Rp_10 := Lib.hid (cells_of (cells_of Rp_9.out (below1 w9 (.cells #[.bool (decide (mo < 0)), .slice A9 (digs mo.natAbs).length c9] 24))) hb)
  have Rq_10 := Lib.hid (cells_of (cells_of Rq_9.out (below1 w9 (.cells #[.bool (decide (mo < 0)), .slice A9 (digs mo.natAbs).length c9] 24))) hb)
  have Rr_10 := Lib.hid (cells_of (cells_of Rr_9.out (below1 w9 (.cells #[.bool (decide (mo < 0)), .slice A9 (digs mo.natAbs).length c9] 24))) hb)
  clear fa0 fa1 xa
  have Rm_10 := Lib.hid (cells_of (heap_alloc_new w9 (.cells #[.bool (decide (mo < 0)), .slice A9 (digs mo.natAbs).length c9] 24)) hb)
  clear hb hd
  go_wp2_with fail
  obtain ⟨w11, hW⟩ : ∃ W : World, W = (w10.alloc (.cells #[.bool (decide (al < 0)), .slice A10 (digs al.natAbs).length c10] 24)) := ⟨_, rfl⟩
  rw [← hW]
  have hb : Below w10.heap.size w10 w11 := by rw [hW]; exact below1 _ _
  have L11 := Lib.hid (L10.out.step hb)
  have Rx_11 := Lib.hid (cells_of Rx_10.out hb)
  have Ra_11 := Lib.hid (cells_of Ra_10.out hb)
  have Ru_11 := Lib.hid (cells_of Ru_10.out hb)
  have Rv_11 := Lib.hid (cells_of Rv_10.out hb)
  have Rd_11 := Lib.hid (cells_of Rd_10.out hb)
  have Rp_11 := Lib.hid (cells_of Rp_10.out hb)
  have Rq_11 := Lib.hid (cells_of Rq_10.out hb)
  have Rr_11 := Lib.hid (cells_of Rr_10.out hb)
  have Rm_11 := Lib.hid (cells_of Rm_10.out hb)
  have Rl_11 := Lib.hid (show w11.heap[w10.heap.size]? = some (.cells #[.bool (decide (al < 0)), .slice A10 (digs al.natAbs).length c10] 24 (0, 0)) by rw [hW]; exact heap_alloc_new _ _)
  clear hW hb
  have fv0 := cell_of_row w11 _ 0 _ _ _ Rv_11.out
  have fv1 := cell_of_row w11 _ 1 _ _ _ Rv_11.out
  have xv := heap_lt Rv_11.out
  have fa0 := cell_of_row w11 _ 0 _ _ _ Ra_11.out
  have fa1 := cell_of_row w11 _ 1 _ _ _ Ra_11.out
  have xa := heap_lt Ra_11.out
  simp only [List.getElem?_toArray, List.getElem?_cons_zero, List.getElem?_cons_succ] at fv0 fv1 fa0 fa1
  have KD := Lib.hid (bd0 w11)
  have LD := Lib.hid (L11.out.step KD.out)
  go_region_held3 (fun w' => ∀ b o, b < w11.heap.size → w'.cell? ⟨b, o, none⟩ = w11.cell? ⟨b, o, none⟩)
    (first | with_reducible exact (bcell KD.out).1 | with_reducible exact (bcell K13.out).1 | with_reducible exact (bcell K14.out).1)
    (first
      | (go_at_call 25; (with_reducible refine (zmake_z (x := vx) (LD.out.get (A := Ax) (c := cx) (xs := tx) (by simp)) HVx.out (le6 lbx.out)).mono ?_); rintro e w13 ⟨A13, c13, rfl, hd, hb⟩; (have K13 := Lib.hid (KD.out.trans (hb.mono KD.out.size))); (have L13 := Lib.hid ((LD.out.step hb).add hd)); clear hb hd)
      | (go_at_call 14; (with_reducible refine (same_z (x := bk) (y := vx) (L13.out.get (A := A4) (c := c4) (xs := (digs (bk).natAbs)) (by simp)) (L13.out.get (A := A13) (c := c13) (xs := (digs (vx).natAbs)) (by simp)) (Nat.le_trans lbbk.out (by omega)) E1.out).mono ?_); rintro e w14 ⟨rfl, hb⟩; (have K14 := Lib.hid (K13.out.trans (hb.mono K13.out.size))); (have L14 := Lib.hid (L13.out.step hb)); clear hb ))
  clear fv0 fv1 xv fa0 fa1 xa
  have Rx_14 := Lib.hid (cells_of Rx_11.out K14.out)
  have Ra_14 := Lib.hid (cells_of Ra_11.out K14.out)
  have Ru_14 := Lib.hid (cells_of Ru_11.out K14.out)
  have Rv_14 := Lib.hid (cells_of Rv_11.out K14.out)
  have Rd_14 := Lib.hid (cells_of Rd_11.out K14.out)
  have Rp_14 := Lib.hid (cells_of Rp_11.out K14.out)
  have Rq_14 := Lib.hid (cells_of Rq_11.out K14.out)
  have Rr_14 := Lib.hid (cells_of Rr_11.out K14.out)
  have Rm_14 := Lib.hid (cells_of Rm_11.out K14.out)
  have Rl_14 := Lib.hid (cells_of Rl_11.out K14.out)
  clear KD LD
  have fd0 := cell_of_row w14 _ 0 _ _ _ Rd_14.out
  have fd1 := cell_of_row w14 _ 1 _ _ _ Rd_14.out
  have xd := heap_lt Rd_14.out
  have fq0 := cell_of_row w14 _ 0 _ _ _ Rq_14.out
  have fq1 := cell_of_row w14 _ 1 _ _ _ Rq_14.out
  have xq := heap_lt Rq_14.out
  simp only [List.getElem?_toArray, List.getElem?_cons_zero, List.getElem?_cons_succ] at fd0 fd1 fq0 fq1
  go_wp2_with fail
  refine (same_z (x := dn_) (y := dq) (L14.out.get (A := A5) (c := c5) (xs := (digs (dn_).natAbs)) (by simp)) (L14.out.get (A := A8) (c := c8) (xs := (digs (dq).natAbs)) (by simp)) (Nat.le_trans lbdn_.out (by omega)) E2.out).mono ?_
  rintro e w15 ⟨rfl, hb⟩
  have L15 := Lib.hid (L14.out.step hb)
  have Rx_15 := Lib.hid (cells_of Rx_14.out hb)
  have Ra_15 := Lib.hid (cells_of Ra_14.out hb)
  have Ru_15 := Lib.hid (cells_of Ru_14.out hb)
  have Rv_15 := Lib.hid (cells_of Rv_14.out hb)
  have Rd_15 := Lib.hid (cells_of Rd_14.out hb)
  have Rp_15 := Lib.hid (cells_of Rp_14.out hb)
  have Rq_15 := Lib.hid (cells_of Rq_14.out hb)
  have Rr_15 := Lib.hid (cells_of Rr_14.out hb)
  have Rm_15 := Lib.hid (cells_of Rm_14.out hb)
  have Rl_15 := Lib.hid (cells_of Rl_14.out hb)
  clear fd0 fd1 xd fq0 fq1 xq
  clear hb 
  have fm0 := cell_of_row w15 _ 0 _ _ _ Rm_15.out
  have fm1 := cell_of_row w15 _ 1 _ _ _ Rm_15.out
  have xm := heap_lt Rm_15.out
  have fl0 := cell_of_row w15 _ 0 _ _ _ Rl_15.out
  have fl1 := cell_of_row w15 _ 1 _ _ _ Rl_15.out
  have xl := heap_lt Rl_15.out
  simp only [List.getElem?_toArray, List.getElem?_cons_zero, List.getElem?_cons_succ] at fm0 fm1 fl0 fl1
  go_wp2_with fail
  refine (same_z (x := mo) (y := al) (L15.out.get (A := A9) (c := c9) (xs := (digs (mo).natAbs)) (by simp)) (L15.out.get (A := A10) (c := c10) (xs := (digs (al).natAbs)) (by simp)) (Nat.le_trans lbmo.out (by omega)) E3.out).mono ?_
  rintro e w16 ⟨rfl, hb⟩
  have L16 := Lib.hid (L15.out.step hb)
  have Rx_16 := Lib.hid (cells_of Rx_15.out hb)
  have Ra_16 := Lib.hid (cells_of Ra_15.out hb)
  have Ru_16 := Lib.hid (cells_of Ru_15.out hb)
  have Rv_16 := Lib.hid (cells_of Rv_15.out hb)
  have Rd_16 := Lib.hid (cells_of Rd_15.out hb)
  have Rp_16 := Lib.hid (cells_of Rp_15.out hb)
  have Rq_16 := Lib.hid (cells_of Rq_15.out hb)
  have Rr_16 := Lib.hid (cells_of Rr_15.out hb)
  have Rm_16 := Lib.hid (cells_of Rm_15.out hb)
  have Rl_16 := Lib.hid (cells_of Rl_15.out hb)
  clear fm0 fm1 xm fl0 fl1 xl
  clear hb 
  go_wp2
  go_ret
  exact ⟨rfl, L16.out.1⟩
end Go.Proofs.YthgkdpfkaobgoaaDoor
end

section
/-
  The law ZintShifts of chapter 4, for every argument.
-/
namespace Go.Proofs.YthgkdpfkaobgoaaDoor
open Go.RowKit
theorem zshifts_any (Ax : Option Addr) (cx : Nat) (sx : Bool) (xsx : List Nat) (n m : Int) (n0 : -9223372036854775808 ≤ n) (n9 : n ≤ 9223372036854775807) (m0 : -9223372036854775808 ≤ m) (m9 : m ≤ 9223372036854775807) (w : World) (hx : Dg w Ax cx xsx) (htab : P10 w) :
    Calls Tryd.prog 9 #[.agg #[.bool sx, .slice Ax xsx.length cx], .int .i64 n, .int .i64 m] w fun e w' => e = .returned (.bool true) ∧ Below w.heap.size w w' := by
  by_cases h1 : n < 0
  · by_cases h2 : m < 0
    · exact zshifts_nn Ax cx sx xsx n m n0 n9 m0 m9 h1 h2 w hx htab
    · exact zshifts_np Ax cx sx xsx n m n0 n9 m0 m9 h1 (by omega) w hx htab
  · by_cases h2 : m < 0
    · exact zshifts_pn Ax cx sx xsx n m n0 n9 m0 m9 (by omega) h2 w hx htab
    · exact zshifts_pp Ax cx sx xsx n m n0 n9 m0 m9 (by omega) (by omega) w hx htab
end Go.Proofs.YthgkdpfkaobgoaaDoor
end

section
/-
  From a law's walk to its statement: what comes in is opened, read again behind the call, and handed on.
-/
namespace Go.Proofs.YthgkdpfkaobgoaaDoor
open Go.RowKit Go.WideShapes Go.ChangeShapes Go.ChangeAt
set_option maxRecDepth 100000
theorem own : ownKnob Tryd.prog.godebug = none := by kernel_rfl
theorem laidOut : laidOutB Tryd.prog = true := by kernel_rfl
theorem below_cell_lt {w : World} {b o : Nat} {v : Value} (h : w.cell? ⟨b, o, none⟩ = some v) : b < w.heap.size := by
  rcases Nat.lt_or_ge b w.heap.size with hlt | hge
  · exact hlt
  · have e := Array.getElem?_eq_none hge
    simp [World.cell?, e] at h
theorem cellsElem : Tryd.prog.cellsOf 75 = 1 := by kernel_rfl
/-- A slice of digits that came in. -/
theorem open_dg {H : Type} {enc : TypeId × Value → H} {W : World} {base : Nat} {spare : Nat → Bool} {held : Bool} {v : Value} {d : DataW H} {ps : List MemPlace}
    (hval : Value.okWide Tryd.prog W .any base 22 v) (hd : DataW.Trod enc Tryd.prog W 0 spare held 22 v d ps) : ∃ A c xs, v = .slice A xs.length c ∧ Dg W A c xs := by
  obtain ⟨a0, len, cap, rfl⟩ := okWide_slice Tryd.underlying22 hval
  obtain ⟨fuel, hf⟩ := hd
  rcases open_ints Tryd.underlying22 Tryd.underlying75 cellsElem hf with ⟨hcs, _⟩ | ⟨a, len', cap', zs, hcs, _, hl, hm, hz, _, hcell, hwz⟩
  · simp [Value.cells] at hcs
    obtain ⟨rfl, rfl, rfl⟩ := hcs
    exact ⟨none, 0, [], rfl, Dg.nil_ _ _⟩
  · simp [Value.cells] at hcs
    obtain ⟨rfl, rfl, rfl⟩ := hcs
    have hlz : len ≤ zs.length := by rw [hz]; split <;> omega
    have hn : ∀ n ∈ zs, 0 ≤ n ∧ n ≤ 4294967295 := fun n hn => by simpa [Lit.wf, IntKind.min, IntKind.max, IntKind.signed, IntKind.bits] using hwz n hn
    have hxl : ((zs.take len).map Int.toNat).length = len := by simp; omega
    refine ⟨some a, cap, (zs.take len).map Int.toNat, by rw [hxl], by rw [hxl]; exact hl, ?_, fun h0 => ?_⟩
    · intro x hx
      obtain ⟨z, hz', rfl⟩ := List.mem_map.1 hx
      have := hn z (List.mem_of_mem_take hz')
      omega
    · rw [hxl] at h0
      obtain ⟨b, off, spot⟩ := a
      have hspot : spot = none := by simpa [Addr.add] using World.cell?_spot (hcell 0 (by omega))
      subst hspot
      refine ⟨b, off, rfl, below_cell_lt (v := .int .u32 (zs.getD 0 0)) (o := off) (by have := hcell 0 (by omega); simpa [Addr.add] using this), fun j hj => ?_⟩
      rw [hxl] at hj
      have hc := hcell j (by omega)
      rw [Addr.add_lit] at hc
      rw [hc]
      have hjz : j < zs.length := by omega
      have hb := hn zs[j] (List.getElem_mem hjz)
      simp [hj, List.getElem?_eq_getElem hjz]
      omega
section
variable {H : Type} {enc : TypeId × Value → H} {P : Program}
/-- A law's end: true; older memory stays; each argument reads as it read. -/
theorem law_post {f : Func} {s : ChangeSpec} {W W' : World} {args : Array Value} {ds : List (DataW H)} {before : List MemPlace} {tb : TypeId}
    (hW : DataW.Whole enc P f.params.toList s.vars false W args.toList ds [] before) (hb : Below W.heap.size W W') (hv : s.vars = []) (hrt : f.resultTypes = #[tb]) (htb : P.underlying tb = some .bool)
    (hsr : (s.fn H (ds ++ [])).results = [.lit (.bool true)]) (hsv : (s.fn H (ds ++ [])).vars = [])
    (hargs : ∀ sp : Nat → Bool, (∀ p ∈ before, sp p.block = true) → DataW.TrodAll enc P W' 0 sp true f.params.toList args.toList (s.fn H (ds ++ [])).args before) :
    s.post enc P f false true false false W args (.bool true) W' := by
  have hlt : ∀ p ∈ before, p.block < W.heap.size := fun p hp => hW.lt p hp
  have hold : ∀ p ∈ before, (fun b => decide (b < W.heap.size)) p.block = true := fun p hp => by simpa using hlt p hp
  have hvars : ∀ sp : Nat → Bool, DataW.TrodVars enc P W' sp s.vars (s.fn H (ds ++ [])).vars [] := fun sp => by rw [hv, hsv]; rfl
  refine ⟨ds, [], before, [], before, [], hW, ?_, hargs _ hold, hvars _, World.keptBut_mono (fun p hp => ⟨hp, by simpa using hp⟩) (hb.frame (· ∈ before)), fun h => by cases h⟩
  rw [hrt, hsr]
  exact trodAll_cons_mk (shut_bool htb _) trodAll_mk0
end
/-- An argument reads behind the call as it read ahead of it. -/
theorem again {H : Type} {enc : TypeId × Value → H} {W W' : World} {t : TypeId} {v : Value} {d : DataW H} {ps : List MemPlace} (hr : Tryd.prog.readableRec t = true) (hrow : t < Tryd.prog.types.size)
    (h : DataW.Trod enc Tryd.prog W 0 (fun _ => true) true t v d ps) (hb : Below W.heap.size W W') (hlt : ∀ x ∈ ps, x.block < W.heap.size) (sp : Nat → Bool) (hsp : ∀ x ∈ ps, sp x.block = true) :
    DataW.Trod enc Tryd.prog W' 0 sp true t v d ps :=
  WideElems.Trod_stays laidOut hr hrow h (fun x hx => hb.same (hlt x hx)) hsp
end Go.Proofs.YthgkdpfkaobgoaaDoor
end

section
/-
  From a walk of layer 4 to its card: what the laid tables give, and a whole number that comes in.
-/
namespace Go.Proofs.YthgkdpfkaobgoaaDoor
open Go.RowKit Go.WideShapes Go.ChangeShapes Go.ChangeAt Go.Deep
set_option maxRecDepth 100000
theorem i64_lo {a : Int} (g : (Lit.int .i64 a).wf = true) : -9223372036854775808 ≤ a := by
  simp only [Lit.wf, Bool.and_eq_true, decide_eq_true_eq] at g; exact g.1
theorem i64_hi {a : Int} (g : (Lit.int .i64 a).wf = true) : a ≤ 9223372036854775807 := by
  simp only [Lit.wf, Bool.and_eq_true, decide_eq_true_eq] at g; exact g.2
theorem i32_lo {a : Int} (g : (Lit.int .i32 a).wf = true) : -2147483648 ≤ a := by
  simp only [Lit.wf, Bool.and_eq_true, decide_eq_true_eq] at g; exact g.1
theorem i32_hi {a : Int} (g : (Lit.int .i32 a).wf = true) : a ≤ 2147483647 := by
  simp only [Lit.wf, Bool.and_eq_true, decide_eq_true_eq] at g; exact g.2
theorem gPow : Tryd.prog.globalNamed "internal/strconv.uint64pow10" = some 1 := by kernel_rfl
theorem tPow : (Tryd.prog.globals[1]?).map (·.type) = some 127 := by kernel_rfl
/-- THE TABLE OF POWERS, out of the row's condition. -/
theorem p10_laid {W : World} {a b : String × DataW Unit} (h : laidMet Tryd.prog (a :: b :: ("internal/strconv.uint64pow10", Lib.tabData .u64 Lib.pow10Tab) :: []) W) : P10 W :=
  Lib.tabIs_of_head gPow tPow Tryd.underlying127 Tryd.underlying67 (by kernel_rfl) (by kernel_rfl) h.tail.tail
/-- Digits that came in as a part. -/
theorem open_dg0 {H : Type} {enc : TypeId × Value → H} {W : World} {spare : Nat → Bool} {held : Bool} {a0 : Option Addr} {len cap : Nat} {y : DataW H × List MemPlace}
    (hd : ∃ n, DataW.trod enc Tryd.prog W 0 spare held n 22 [.slice a0 len cap] = some y) : ∃ A c xs, Value.slice a0 len cap = .slice A xs.length c ∧ Dg W A c xs ∧ xs.length ≤ 9223372036854775807 := by
  obtain ⟨fuel, hf⟩ := hd
  obtain ⟨d, ps⟩ := y
  rcases open_ints Tryd.underlying22 Tryd.underlying75 cellsElem hf with ⟨hcs, _⟩ | ⟨a, len', cap', zs, hcs, _, hl, hm, hz, _, hcell, hwz⟩
  · simp at hcs
    obtain ⟨rfl, rfl, rfl⟩ := hcs
    exact ⟨none, 0, [], rfl, Dg.nil_ _ _, by simp⟩
  · simp at hcs
    obtain ⟨rfl, rfl, rfl⟩ := hcs
    have hlz : len ≤ zs.length := by rw [hz]; split <;> omega
    have hn : ∀ n ∈ zs, 0 ≤ n ∧ n ≤ 4294967295 := fun n hn => by simpa [Lit.wf, IntKind.min, IntKind.max, IntKind.signed, IntKind.bits] using hwz n hn
    have hxl : ((zs.take len).map Int.toNat).length = len := by simp; omega
    refine ⟨some a, cap, (zs.take len).map Int.toNat, by rw [hxl], ⟨by rw [hxl]; exact hl, ?_, fun h0 => ?_⟩, by rw [hxl]; unfold maxLen at hm; omega⟩
    · intro x hx
      obtain ⟨z, hz', rfl⟩ := List.mem_map.1 hx
      have := hn z (List.mem_of_mem_take hz')
      omega
    · rw [hxl] at h0
      obtain ⟨b, off, spot⟩ := a
      have hspot : spot = none := by simpa [Addr.add] using World.cell?_spot (hcell 0 (by omega))
      subst hspot
      refine ⟨b, off, rfl, below_cell_lt (v := .int .u32 (zs.getD 0 0)) (o := off) (by have := hcell 0 (by omega); simpa [Addr.add] using this), fun j hj => ?_⟩
      rw [hxl] at hj
      have hc := hcell j (by omega)
      rw [Addr.add_lit] at hc
      rw [hc]
      have hjz : j < zs.length := by omega
      have hb := hn zs[j] (List.getElem_mem hjz)
      simp [hj, List.getElem?_eq_getElem hjz]
      omega
/-- A whole number that came in. -/
theorem open_z {H : Type} {enc : TypeId × Value → H} {W : World} {base : Nat} {v : Value} {d : DataW H} {ps : List MemPlace}
    (hval : Value.okWide Tryd.prog W .any base 24 v) (hd : DataW.Trod enc Tryd.prog W 0 (fun _ => true) true 24 v d ps) :
    ∃ s A c xs, v = .agg #[.bool s, .slice A xs.length c] ∧ Dg W A c xs ∧ xs.length ≤ 9223372036854775807 := by
  obtain ⟨v0, v1, y0, y1, n, rfl, _, _, h0, h1⟩ := Go.Joins.open_agg2 Tryd.underlying24 (by kernel_rfl) (by kernel_rfl) hval hd
  obtain ⟨s, e0, _⟩ := DataW.trod_bool Tryd.underlying4 h0
  obtain rfl : v0 = .bool s := by simpa using e0
  obtain ⟨a0, len, cap, e1⟩ := Go.Joins.slice_form Tryd.underlying22 h1
  obtain rfl : v1 = .slice a0 len cap := by simpa using e1
  obtain ⟨A, c, xs, e, g⟩ := open_dg0 ⟨n, h1⟩
  exact ⟨s, A, c, xs, by rw [e], g⟩
end Go.Proofs.YthgkdpfkaobgoaaDoor
end
