import Derived.Test.YtaciohjobenipaaDoorMB5
import Derived.Test.YtaciohjobenipaaDoorTie
import Derived.Test.YtaciohjobenipaaDoorCards
import Derived.SevenTiedAt
import Derived.OpenShut
import Derived.ChangeMaps5
section
/-
  DyadReckons.
-/
namespace Go.Proofs.YtaciohjobenipaaDoor
open Go.RowKit
set_option linter.unusedSimpArgs false
set_option linter.unusedVariables false
set_option maxHeartbeats 8000000 in
set_option maxRecDepth 100000 in
theorem dyadReckons_any  (Ax : Option Addr) (cx : Nat) (sx : Bool) (xsx : List Nat) (ex : Int) (Ay : Option Addr) (cy : Nat) (sy : Bool) (xsy : List Nat) (ey : Int) (n : Int) (w : World)  (hx : Dg w Ax cx xsx) (lx : xsx.length ≤ 9223372036854775807) (ex0 : -9223372036854775808 ≤ ex) (ex1 : ex ≤ 9223372036854775807) (hy : Dg w Ay cy xsy) (ly : xsy.length ≤ 9223372036854775807) (ey0 : -9223372036854775808 ≤ ey) (ey1 : ey ≤ 9223372036854775807) (n0 : -9223372036854775808 ≤ n) (n1 : n ≤ 9223372036854775807) (hT : T32 w):
    Calls Tryd.prog 4 #[.agg #[.bool sx, .slice Ax xsx.length cx, .int .i64 ex], .agg #[.bool sy, .slice Ay xsy.length cy, .int .i64 ey], .int .i64 n] w fun e w' => e = .returned (.bool true) ∧ Below w.heap.size w w' := by
  obtain ⟨tx, htx⟩ : ∃ t, xsx.take 20 = t := ⟨_, rfl⟩
  have hdx : Dg w Ax cx tx := by rw [← htx]; exact hx.take 20
  have okx := hdx.2.1
  have tlx : tx.length = min xsx.length 20 := by rw [← htx, List.length_take]; omega
  have TCx := Lib.hid hdx.1
  have TMx := Lib.hid (show min (xsx.length : Int) 20 = (tx.length : Int) by omega)
  have LTx := Lib.hid (show tx.length ≤ 10000 by omega)
  obtain ⟨ty, hty⟩ : ∃ t, xsy.take 20 = t := ⟨_, rfl⟩
  have hdy : Dg w Ay cy ty := by rw [← hty]; exact hy.take 20
  have oky := hdy.2.1
  have tly : ty.length = min xsy.length 20 := by rw [← hty, List.length_take]; omega
  have TCy := Lib.hid hdy.1
  have TMy := Lib.hid (show min (xsy.length : Int) 20 = (ty.length : Int) by omega)
  have LTy := Lib.hid (show ty.length ≤ 10000 by omega)
  obtain ⟨K0, F0, V0, ln0, pp0, qq0⟩ := add_both (s := sx) (x := ex) (r := sy) (y := ey) okx oky (by omega : tx.length ≤ 10000) (by omega : ty.length ≤ 10000)
  have DK0 := Lib.hid ln0
  have PP0 := Lib.hid pp0
  have QQ0 := Lib.hid qq0
  obtain ⟨K1, F1, V1, ln1, pp1, qq1⟩ := sub_both (s := sx) (x := ex) (r := sy) (y := ey) okx oky (by omega : tx.length ≤ 10000) (by omega : ty.length ≤ 10000)
  have DK1 := Lib.hid ln1
  have PP1 := Lib.hid pp1
  have QQ1 := Lib.hid qq1
  obtain ⟨K2, F2, V2, ln2, pp2, qq2⟩ := mul_both (s := sx) (x := ex) (r := sy) (y := ey) okx oky (by omega : tx.length ≤ 10000) (by omega : ty.length ≤ 10000)
  have DK2 := Lib.hid ln2
  have PP2 := Lib.hid pp2
  have QQ2 := Lib.hid qq2
  obtain ⟨K3, F3, V3, ln3, pp3, qq3⟩ := scale_both (s := sx) (x := ex) n okx (by omega : tx.length ≤ 10000)
  have DK3 := Lib.hid ln3
  have PP3 := Lib.hid pp3
  have QQ3 := Lib.hid qq3
  have HT := Lib.hid hT
  have L0 := Lib.hid (((((live_start w).add hx).add hdx).add hy).add hdy)
  clear hx lx ex0 ex1 htx hdx okx tlx hy ly ey0 ey1 hty hdy oky tly hT ln0 pp0 qq0 ln1 pp1 qq1 ln2 pp2 qq2 ln3 pp3 qq3 n0 n1
  go_enter Tryd.func4, Tryd.ntmps4
  go_wp2_with fail
  obtain ⟨v1, hW, hb, Rx_1, Ry_1⟩ := new2 w (.cells #[.bool sx, .slice Ax xsx.length cx, .int .i64 ex] 26) (.cells #[.bool sy, .slice Ay xsy.length cy, .int .i64 ey] 26)
  rw [← hW]
  have L1 := ls L0 hb
  have Gx := gl0 L0.out
  have Gy := gl1 L0.out
  have Nxy : w.heap.size < w.heap.size + 1 := by omega
  clear hW hb
  refine (dexamples_any _ (t32_live HT.out L1.out)).mono ?_
  rintro e w2 ⟨rfl, hb⟩
  have L2 := ls L1 hb
  have Rx_2 := co Rx_1 hb
  have Ry_2 := co Ry_1 hb
  clear hb 
  obtain ⟨fx0, zx0, fx1, zx1, fx2, zx2, xx⟩ := ly3 Rx_2.out
  go_wp2_with fail
  refine (cut_l (ts := tx) (N := 20) TMx.out TCx.out).mono ?_
  rintro e w3 ⟨rfl, hb⟩
  have L3 := ls L2 hb
  clear fx0 zx0 fx1 zx1 fx2 zx2 xx
  have Rx_3 := co Rx_2 hb
  have Ry_3 := co Ry_2 hb
  clear hb 
  obtain ⟨fy0, zy0, fy1, zy1, fy2, zy2, xy⟩ := ly3 Ry_3.out
  go_wp2_with fail
  obtain ⟨w4, hW, hb, Ra_4⟩ := new1 w3 (.cells #[.bool sx, .slice Ax tx.length cx, .int .i64 ex] 26)
  rw [← hW]
  have L4 := ls L3 hb
  have Rx_4 := co Rx_3 hb
  have Ry_4 := co Ry_3 hb
  have Ga := gl0 L3.out
  have Nxa := nl0 Rx_3.out
  have Nya := nl0 Ry_3.out
  clear hW hb
  clear fy0 zy0 fy1 zy1 fy2 zy2 xy
  refine (cut_l (ts := ty) (N := 20) TMy.out TCy.out).mono ?_
  rintro e w5 ⟨rfl, hb⟩
  have L5 := ls L4 hb
  have Rx_5 := co Rx_4 hb
  have Ry_5 := co Ry_4 hb
  have Ra_5 := co Ra_4 hb
  clear hb 
  obtain ⟨fa0, za0, fa1, za1, fa2, za2, xa⟩ := ly3 Ra_5.out
  go_wp2_with fail
  obtain ⟨w6, hW, hb, Rb_6⟩ := new1 w5 (.cells #[.bool sy, .slice Ay ty.length cy, .int .i64 ey] 26)
  rw [← hW]
  have L6 := ls L5 hb
  have Rx_6 := co Rx_5 hb
  have Ry_6 := co Ry_5 hb
  have Ra_6 := co Ra_5 hb
  have Gb := gl0 L5.out
  have Nxb := nl0 Rx_5.out
  have Nyb := nl0 Ry_5.out
  have Nab := nl0 Ra_5.out
  clear hW hb
  clear fa0 za0 fa1 za1 fa2 za2 xa
  refine (PP0.out _ _ _ _ _ (L6.out.get (A := Ax) (c := cx) (xs := tx) (by simp)) (L6.out.get (A := Ay) (c := cy) (xs := ty) (by simp)) (t32_live HT.out L6.out)).mono ?_
  rintro e w7 ⟨A7, c7, rfl, hd, hb⟩
  have L7 := la L6 hb hd
  have Rx_7 := co Rx_6 hb
  have Ry_7 := co Ry_6 hb
  have Ra_7 := co Ra_6 hb
  have Rb_7 := co Rb_6 hb
  clear hb hd
  obtain ⟨fa0, za0, fa1, za1, fa2, za2, xa⟩ := ly3 Ra_7.out
  obtain ⟨fb0, zb0, fb1, zb1, fb2, zb2, xb⟩ := ly3 Rb_7.out
  go_wp2_with fail
  obtain ⟨w8, hW, hb, Rp0_8⟩ := new1 w7 (.cells #[.bool (decide (K0 < 0)), .slice A7 (digs K0.natAbs).length c7, .int .i64 F0] 26)
  rw [← hW]
  have L8 := ls L7 hb
  have Rx_8 := co Rx_7 hb
  have Ry_8 := co Ry_7 hb
  have Ra_8 := co Ra_7 hb
  have Rb_8 := co Rb_7 hb
  have Gp0 := gl0 L7.out
  have Nxp0 := nl0 Rx_7.out
  have Nyp0 := nl0 Ry_7.out
  have Nap0 := nl0 Ra_7.out
  have Nbp0 := nl0 Rb_7.out
  clear hW hb
  clear fa0 za0 fa1 za1 fa2 za2 xa fb0 zb0 fb1 zb1 fb2 zb2 xb
  refine (QQ0.out _ _ _ _ _ (L8.out.get (A := Ax) (c := cx) (xs := tx) (by simp)) (L8.out.get (A := Ay) (c := cy) (xs := ty) (by simp))).mono ?_
  rintro e w9 ⟨A9, c9, rfl, hd, hb⟩
  have L9 := la L8 hb hd
  have Rx_9 := co Rx_8 hb
  have Ry_9 := co Ry_8 hb
  have Ra_9 := co Ra_8 hb
  have Rb_9 := co Rb_8 hb
  have Rp0_9 := co Rp0_8 hb
  clear hb hd
  obtain ⟨fa0, za0, fa1, za1, fa2, za2, xa⟩ := ly3 Ra_9.out
  obtain ⟨fb0, zb0, fb1, zb1, fb2, zb2, xb⟩ := ly3 Rb_9.out
  go_wp2_with fail
  obtain ⟨w10, hW, hb, Rr0_10⟩ := new1 w9 (.cells #[.bool (decide (K0 < 0)), .slice A9 (digs K0.natAbs).length c9, .int .i64 F0] 26)
  rw [← hW]
  have L10 := ls L9 hb
  have Rx_10 := co Rx_9 hb
  have Ry_10 := co Ry_9 hb
  have Ra_10 := co Ra_9 hb
  have Rb_10 := co Rb_9 hb
  have Rp0_10 := co Rp0_9 hb
  have Gr0 := gl0 L9.out
  have Nxr0 := nl0 Rx_9.out
  have Nyr0 := nl0 Ry_9.out
  have Nar0 := nl0 Ra_9.out
  have Nbr0 := nl0 Rb_9.out
  have Np0r0 := nl0 Rp0_9.out
  clear hW hb
  clear fa0 za0 fa1 za1 fa2 za2 xa fb0 zb0 fb1 zb1 fb2 zb2 xb
  refine (PP1.out _ _ _ _ _ (L10.out.get (A := Ax) (c := cx) (xs := tx) (by simp)) (L10.out.get (A := Ay) (c := cy) (xs := ty) (by simp)) (t32_live HT.out L10.out)).mono ?_
  rintro e w11 ⟨A11, c11, rfl, hd, hb⟩
  have L11 := la L10 hb hd
  have Rx_11 := co Rx_10 hb
  have Ry_11 := co Ry_10 hb
  have Ra_11 := co Ra_10 hb
  have Rb_11 := co Rb_10 hb
  have Rp0_11 := co Rp0_10 hb
  have Rr0_11 := co Rr0_10 hb
  clear hb hd
  obtain ⟨fa0, za0, fa1, za1, fa2, za2, xa⟩ := ly3 Ra_11.out
  obtain ⟨fb0, zb0, fb1, zb1, fb2, zb2, xb⟩ := ly3 Rb_11.out
  go_wp2_with fail
  obtain ⟨w12, hW, hb, Rp1_12⟩ := new1 w11 (.cells #[.bool (decide (K1 < 0)), .slice A11 (digs K1.natAbs).length c11, .int .i64 F1] 26)
  rw [← hW]
  have L12 := ls L11 hb
  have Rx_12 := co Rx_11 hb
  have Ry_12 := co Ry_11 hb
  have Ra_12 := co Ra_11 hb
  have Rb_12 := co Rb_11 hb
  have Rp0_12 := co Rp0_11 hb
  have Rr0_12 := co Rr0_11 hb
  have Gp1 := gl0 L11.out
  have Nxp1 := nl0 Rx_11.out
  have Nyp1 := nl0 Ry_11.out
  have Nap1 := nl0 Ra_11.out
  have Nbp1 := nl0 Rb_11.out
  have Np0p1 := nl0 Rp0_11.out
  have Nr0p1 := nl0 Rr0_11.out
  clear hW hb
  clear fa0 za0 fa1 za1 fa2 za2 xa fb0 zb0 fb1 zb1 fb2 zb2 xb
  refine (QQ1.out _ _ _ _ _ (L12.out.get (A := Ax) (c := cx) (xs := tx) (by simp)) (L12.out.get (A := Ay) (c := cy) (xs := ty) (by simp))).mono ?_
  rintro e w13 ⟨A13, c13, rfl, hd, hb⟩
  have L13 := la L12 hb hd
  have Rx_13 := co Rx_12 hb
  have Ry_13 := co Ry_12 hb
  have Ra_13 := co Ra_12 hb
  have Rb_13 := co Rb_12 hb
  have Rp0_13 := co Rp0_12 hb
  have Rr0_13 := co Rr0_12 hb
  have Rp1_13 := co Rp1_12 hb
  clear hb hd
  obtain ⟨fa0, za0, fa1, za1, fa2, za2, xa⟩ := ly3 Ra_13.out
  obtain ⟨fb0, zb0, fb1, zb1, fb2, zb2, xb⟩ := ly3 Rb_13.out
  go_wp2_with fail
  obtain ⟨w14, hW, hb, Rr1_14⟩ := new1 w13 (.cells #[.bool (decide (K1 < 0)), .slice A13 (digs K1.natAbs).length c13, .int .i64 F1] 26)
  rw [← hW]
  have L14 := ls L13 hb
  have Rx_14 := co Rx_13 hb
  have Ry_14 := co Ry_13 hb
  have Ra_14 := co Ra_13 hb
  have Rb_14 := co Rb_13 hb
  have Rp0_14 := co Rp0_13 hb
  have Rr0_14 := co Rr0_13 hb
  have Rp1_14 := co Rp1_13 hb
  have Gr1 := gl0 L13.out
  have Nxr1 := nl0 Rx_13.out
  have Nyr1 := nl0 Ry_13.out
  have Nar1 := nl0 Ra_13.out
  have Nbr1 := nl0 Rb_13.out
  have Np0r1 := nl0 Rp0_13.out
  have Nr0r1 := nl0 Rr0_13.out
  have Np1r1 := nl0 Rp1_13.out
  clear hW hb
  clear fa0 za0 fa1 za1 fa2 za2 xa fb0 zb0 fb1 zb1 fb2 zb2 xb
  refine (PP2.out _ _ _ _ _ (L14.out.get (A := Ax) (c := cx) (xs := tx) (by simp)) (L14.out.get (A := Ay) (c := cy) (xs := ty) (by simp)) (t32_live HT.out L14.out)).mono ?_
  rintro e w15 ⟨A15, c15, rfl, hd, hb⟩
  have L15 := la L14 hb hd
  have Rx_15 := co Rx_14 hb
  have Ry_15 := co Ry_14 hb
  have Ra_15 := co Ra_14 hb
  have Rb_15 := co Rb_14 hb
  have Rp0_15 := co Rp0_14 hb
  have Rr0_15 := co Rr0_14 hb
  have Rp1_15 := co Rp1_14 hb
  have Rr1_15 := co Rr1_14 hb
  clear hb hd
  obtain ⟨fa0, za0, fa1, za1, fa2, za2, xa⟩ := ly3 Ra_15.out
  obtain ⟨fb0, zb0, fb1, zb1, fb2, zb2, xb⟩ := ly3 Rb_15.out
  go_wp2_with fail
  obtain ⟨w16, hW, hb, Rp2_16⟩ := new1 w15 (.cells #[.bool (decide (K2 < 0)), .slice A15 (digs K2.natAbs).length c15, .int .i64 F2] 26)
  rw [← hW]
  have L16 := ls L15 hb
  have Rx_16 := co Rx_15 hb
  have Ry_16 := co Ry_15 hb
  have Ra_16 := co Ra_15 hb
  have Rb_16 := co Rb_15 hb
  have Rp0_16 := co Rp0_15 hb
  have Rr0_16 := co Rr0_15 hb
  have Rp1_16 := co Rp1_15 hb
  have Rr1_16 := co Rr1_15 hb
  have Gp2 := gl0 L15.out
  have Nxp2 := nl0 Rx_15.out
  have Nyp2 := nl0 Ry_15.out
  have Nap2 := nl0 Ra_15.out
  have Nbp2 := nl0 Rb_15.out
  have Np0p2 := nl0 Rp0_15.out
  have Nr0p2 := nl0 Rr0_15.out
  have Np1p2 := nl0 Rp1_15.out
  have Nr1p2 := nl0 Rr1_15.out
  clear hW hb
  clear fa0 za0 fa1 za1 fa2 za2 xa fb0 zb0 fb1 zb1 fb2 zb2 xb
  refine (QQ2.out _ _ _ _ _ (L16.out.get (A := Ax) (c := cx) (xs := tx) (by simp)) (L16.out.get (A := Ay) (c := cy) (xs := ty) (by simp))).mono ?_
  rintro e w17 ⟨A17, c17, rfl, hd, hb⟩
  have L17 := la L16 hb hd
  have Rx_17 := co Rx_16 hb
  have Ry_17 := co Ry_16 hb
  have Ra_17 := co Ra_16 hb
  have Rb_17 := co Rb_16 hb
  have Rp0_17 := co Rp0_16 hb
  have Rr0_17 := co Rr0_16 hb
  have Rp1_17 := co Rp1_16 hb
  have Rr1_17 := co Rr1_16 hb
  have Rp2_17 := co Rp2_16 hb
  clear hb hd
  obtain ⟨fa0, za0, fa1, za1, fa2, za2, xa⟩ := ly3 Ra_17.out
  go_wp2_with fail
  obtain ⟨w18, hW, hb, Rr2_18⟩ := new1 w17 (.cells #[.bool (decide (K2 < 0)), .slice A17 (digs K2.natAbs).length c17, .int .i64 F2] 26)
  rw [← hW]
  have L18 := ls L17 hb
  have Rx_18 := co Rx_17 hb
  have Ry_18 := co Ry_17 hb
  have Ra_18 := co Ra_17 hb
  have Rb_18 := co Rb_17 hb
  have Rp0_18 := co Rp0_17 hb
  have Rr0_18 := co Rr0_17 hb
  have Rp1_18 := co Rp1_17 hb
  have Rr1_18 := co Rr1_17 hb
  have Rp2_18 := co Rp2_17 hb
  have Gr2 := gl0 L17.out
  have Nxr2 := nl0 Rx_17.out
  have Nyr2 := nl0 Ry_17.out
  have Nar2 := nl0 Ra_17.out
  have Nbr2 := nl0 Rb_17.out
  have Np0r2 := nl0 Rp0_17.out
  have Nr0r2 := nl0 Rr0_17.out
  have Np1r2 := nl0 Rp1_17.out
  have Nr1r2 := nl0 Rr1_17.out
  have Np2r2 := nl0 Rp2_17.out
  clear hW hb
  clear fa0 za0 fa1 za1 fa2 za2 xa
  refine (PP3.out _ _ _ (L18.out.get (A := Ax) (c := cx) (xs := tx) (by simp)) (t32_live HT.out L18.out)).mono ?_
  rintro e w19 ⟨A19, c19, rfl, hd, hb⟩
  have L19 := la L18 hb hd
  have Rx_19 := co Rx_18 hb
  have Ry_19 := co Ry_18 hb
  have Ra_19 := co Ra_18 hb
  have Rb_19 := co Rb_18 hb
  have Rp0_19 := co Rp0_18 hb
  have Rr0_19 := co Rr0_18 hb
  have Rp1_19 := co Rp1_18 hb
  have Rr1_19 := co Rr1_18 hb
  have Rp2_19 := co Rp2_18 hb
  have Rr2_19 := co Rr2_18 hb
  clear hb hd
  obtain ⟨fa0, za0, fa1, za1, fa2, za2, xa⟩ := ly3 Ra_19.out
  go_wp2_with fail
  obtain ⟨w20, hW, hb, Rp3_20⟩ := new1 w19 (.cells #[.bool (decide (K3 < 0)), .slice A19 (digs K3.natAbs).length c19, .int .i64 F3] 26)
  rw [← hW]
  have L20 := ls L19 hb
  have Rx_20 := co Rx_19 hb
  have Ry_20 := co Ry_19 hb
  have Ra_20 := co Ra_19 hb
  have Rb_20 := co Rb_19 hb
  have Rp0_20 := co Rp0_19 hb
  have Rr0_20 := co Rr0_19 hb
  have Rp1_20 := co Rp1_19 hb
  have Rr1_20 := co Rr1_19 hb
  have Rp2_20 := co Rp2_19 hb
  have Rr2_20 := co Rr2_19 hb
  have Gp3 := gl0 L19.out
  have Nxp3 := nl0 Rx_19.out
  have Nyp3 := nl0 Ry_19.out
  have Nap3 := nl0 Ra_19.out
  have Nbp3 := nl0 Rb_19.out
  have Np0p3 := nl0 Rp0_19.out
  have Nr0p3 := nl0 Rr0_19.out
  have Np1p3 := nl0 Rp1_19.out
  have Nr1p3 := nl0 Rr1_19.out
  have Np2p3 := nl0 Rp2_19.out
  have Nr2p3 := nl0 Rr2_19.out
  clear hW hb
  clear fa0 za0 fa1 za1 fa2 za2 xa
  refine (QQ3.out _ _ _ (L20.out.get (A := Ax) (c := cx) (xs := tx) (by simp))).mono ?_
  rintro e w21 ⟨A21, c21, rfl, hd, hb⟩
  have L21 := la L20 hb hd
  have Rx_21 := co Rx_20 hb
  have Ry_21 := co Ry_20 hb
  have Ra_21 := co Ra_20 hb
  have Rb_21 := co Rb_20 hb
  have Rp0_21 := co Rp0_20 hb
  have Rr0_21 := co Rr0_20 hb
  have Rp1_21 := co Rp1_20 hb
  have Rr1_21 := co Rr1_20 hb
  have Rp2_21 := co Rp2_20 hb
  have Rr2_21 := co Rr2_20 hb
  have Rp3_21 := co Rp3_20 hb
  clear hb hd
  obtain ⟨fp00, zp00, fp01, zp01, fp02, zp02, xp0⟩ := ly3 Rp0_21.out
  obtain ⟨fr00, zr00, fr01, zr01, fr02, zr02, xr0⟩ := ly3 Rr0_21.out
  go_wp2_with fail
  obtain ⟨w22, hW, hb, Rr3_22⟩ := new1 w21 (.cells #[.bool (decide (K3 < 0)), .slice A21 (digs K3.natAbs).length c21, .int .i64 F3] 26)
  rw [← hW]
  have L22 := ls L21 hb
  have Rx_22 := co Rx_21 hb
  have Ry_22 := co Ry_21 hb
  have Ra_22 := co Ra_21 hb
  have Rb_22 := co Rb_21 hb
  have Rp0_22 := co Rp0_21 hb
  have Rr0_22 := co Rr0_21 hb
  have Rp1_22 := co Rp1_21 hb
  have Rr1_22 := co Rr1_21 hb
  have Rp2_22 := co Rp2_21 hb
  have Rr2_22 := co Rr2_21 hb
  have Rp3_22 := co Rp3_21 hb
  have Gr3 := gl0 L21.out
  have Nxr3 := nl0 Rx_21.out
  have Nyr3 := nl0 Ry_21.out
  have Nar3 := nl0 Ra_21.out
  have Nbr3 := nl0 Rb_21.out
  have Np0r3 := nl0 Rp0_21.out
  have Nr0r3 := nl0 Rr0_21.out
  have Np1r3 := nl0 Rp1_21.out
  have Nr1r3 := nl0 Rr1_21.out
  have Np2r3 := nl0 Rp2_21.out
  have Nr2r3 := nl0 Rr2_21.out
  have Np3r3 := nl0 Rp3_21.out
  clear hW hb
  clear fp00 zp00 fp01 zp01 fp02 zp02 xp0 fr00 zr00 fr01 zr01 fr02 zr02 xr0
  refine (dsame_d (m := K0) (n := K0) (x := F0) (y := F0) (q := true) (L22.out.get (A := A7) (c := c7) (xs := digs K0.natAbs) (by simp)) (L22.out.get (A := A9) (c := c9) (xs := digs K0.natAbs) (by simp)) DK0.out (by simp)).mono ?_
  rintro e w23 ⟨rfl, hb⟩
  have L23 := ls L22 hb
  have Rx_23 := co Rx_22 hb
  have Ry_23 := co Ry_22 hb
  have Ra_23 := co Ra_22 hb
  have Rb_23 := co Rb_22 hb
  have Rp0_23 := co Rp0_22 hb
  have Rr0_23 := co Rr0_22 hb
  have Rp1_23 := co Rp1_22 hb
  have Rr1_23 := co Rr1_22 hb
  have Rp2_23 := co Rp2_22 hb
  have Rr2_23 := co Rr2_22 hb
  have Rp3_23 := co Rp3_22 hb
  have Rr3_23 := co Rr3_22 hb
  clear hb 
  obtain ⟨fp10, zp10, fp11, zp11, fp12, zp12, xp1⟩ := ly3 Rp1_23.out
  obtain ⟨fr10, zr10, fr11, zr11, fr12, zr12, xr1⟩ := ly3 Rr1_23.out
  go_wp2_with fail
  refine (dsame_d (m := K1) (n := K1) (x := F1) (y := F1) (q := true) (L23.out.get (A := A11) (c := c11) (xs := digs K1.natAbs) (by simp)) (L23.out.get (A := A13) (c := c13) (xs := digs K1.natAbs) (by simp)) DK1.out (by simp)).mono ?_
  rintro e w24 ⟨rfl, hb⟩
  have L24 := ls L23 hb
  clear fp10 zp10 fp11 zp11 fp12 zp12 xp1 fr10 zr10 fr11 zr11 fr12 zr12 xr1
  have Rx_24 := co Rx_23 hb
  have Ry_24 := co Ry_23 hb
  have Ra_24 := co Ra_23 hb
  have Rb_24 := co Rb_23 hb
  have Rp0_24 := co Rp0_23 hb
  have Rr0_24 := co Rr0_23 hb
  have Rp1_24 := co Rp1_23 hb
  have Rr1_24 := co Rr1_23 hb
  have Rp2_24 := co Rp2_23 hb
  have Rr2_24 := co Rr2_23 hb
  have Rp3_24 := co Rp3_23 hb
  have Rr3_24 := co Rr3_23 hb
  clear hb 
  obtain ⟨fp20, zp20, fp21, zp21, fp22, zp22, xp2⟩ := ly3 Rp2_24.out
  obtain ⟨fr20, zr20, fr21, zr21, fr22, zr22, xr2⟩ := ly3 Rr2_24.out
  go_wp2_with fail
  refine (dsame_d (m := K2) (n := K2) (x := F2) (y := F2) (q := true) (L24.out.get (A := A15) (c := c15) (xs := digs K2.natAbs) (by simp)) (L24.out.get (A := A17) (c := c17) (xs := digs K2.natAbs) (by simp)) DK2.out (by simp)).mono ?_
  rintro e w25 ⟨rfl, hb⟩
  have L25 := ls L24 hb
  clear fp20 zp20 fp21 zp21 fp22 zp22 xp2 fr20 zr20 fr21 zr21 fr22 zr22 xr2
  have Rx_25 := co Rx_24 hb
  have Ry_25 := co Ry_24 hb
  have Ra_25 := co Ra_24 hb
  have Rb_25 := co Rb_24 hb
  have Rp0_25 := co Rp0_24 hb
  have Rr0_25 := co Rr0_24 hb
  have Rp1_25 := co Rp1_24 hb
  have Rr1_25 := co Rr1_24 hb
  have Rp2_25 := co Rp2_24 hb
  have Rr2_25 := co Rr2_24 hb
  have Rp3_25 := co Rp3_24 hb
  have Rr3_25 := co Rr3_24 hb
  clear hb 
  obtain ⟨fp30, zp30, fp31, zp31, fp32, zp32, xp3⟩ := ly3 Rp3_25.out
  obtain ⟨fr30, zr30, fr31, zr31, fr32, zr32, xr3⟩ := ly3 Rr3_25.out
  go_wp2_with fail
  refine (dsame_d (m := K3) (n := K3) (x := F3) (y := F3) (q := true) (L25.out.get (A := A19) (c := c19) (xs := digs K3.natAbs) (by simp)) (L25.out.get (A := A21) (c := c21) (xs := digs K3.natAbs) (by simp)) DK3.out (by simp)).mono ?_
  rintro e w26 ⟨rfl, hb⟩
  have L26 := ls L25 hb
  clear fp30 zp30 fp31 zp31 fp32 zp32 xp3 fr30 zr30 fr31 zr31 fr32 zr32 xr3
  have Rx_26 := co Rx_25 hb
  have Ry_26 := co Ry_25 hb
  have Ra_26 := co Ra_25 hb
  have Rb_26 := co Rb_25 hb
  have Rp0_26 := co Rp0_25 hb
  have Rr0_26 := co Rr0_25 hb
  have Rp1_26 := co Rp1_25 hb
  have Rr1_26 := co Rr1_25 hb
  have Rp2_26 := co Rp2_25 hb
  have Rr2_26 := co Rr2_25 hb
  have Rp3_26 := co Rp3_25 hb
  have Rr3_26 := co Rr3_25 hb
  clear hb 
  go_wp2
  go_ret
  exact ⟨rfl, L26.out.1⟩
end Go.Proofs.YtaciohjobenipaaDoor
end

section
/-
  DyadReckons, FOR EVERY ARGUMENT: the law returns true, and each argument reads behind the call as it read ahead of it. THE TIED CARD.
-/
namespace Go.Proofs.YtaciohjobenipaaDoor.dyadReckons
open Go Go.ChangeShapes Go.WideShapes Go.ChangeAt Go.RowKit
set_option linter.unusedVariables false
/-- The door's own heap meets the condition. -/
theorem door_met (os : Os) (args : Array Value) : laidMetH Tryd.prog Rows.dyadReckonsRow.laid ((World.doorLaid Tryd.prog 400 os).forCall (fun _ _ => 0) ⟨#[], args, []⟩).memory :=
  laidMetH_of_parts3 (fuel := 8) (laidMet_of_run' 8 (by kernel_rfl) (by kernel_rfl)) (by kernel_rfl) (by kernel_rfl)
set_option maxRecDepth 100000 in
theorem lifted (os : Os) (started : os.Started) (H : Type) (enc : TypeId × Value → H) :
    ReturnsInHanded {} Tryd.checked os 4 .any (fun w args => (Rows.dyadReckonsSpec.pre enc Tryd.prog Tryd.f4 [] false w args ∧ laidMetH Tryd.prog Rows.dyadReckonsRow.laid w) ∧ sizedMet enc Tryd.prog Tryd.f4 (OpenSpec.ofChange Rows.dyadReckonsSpec) false w args)
      (Rows.dyadReckonsSpec.post enc Tryd.prog Tryd.f4 false true false false) := by
  refine returnsInHanded_of_change_and (C := Tryd.checked) (X := fun w _ => laidMetH Tryd.prog Rows.dyadReckonsRow.laid w) (fun _ _ _ hh h => h.of_heap hh) own started (by kernel_rfl) Tryd.func4
    (ChangeSpec.witness_shaped (enc := enc) (C := Tryd.checked) (os := os) (X := fun w _ => laidMetH Tryd.prog Rows.dyadReckonsRow.laid w) false (World.doorLaid Tryd.prog 400 os) #[.agg #[.bool false, .slice none 0 0, .int .i64 0], .agg #[.bool false, .slice none 0 0, .int .i64 0], .int .i64 0] 8 rfl (World.shaped_of_RefB (by kernel_rfl) (by kernel_rfl)) (by kernel_rfl) (by kernel_rfl) (by kernel_rfl) (door_met os _)) ?_
  intro W base args ds gs before hval0 hW _ _ hL _
  rw [MakeChecks.laidMetH_plain _ _ _ (by kernel_rfl)] at hL
  have htab := t32_laid hL
  clear hL
  have hval : ∀ (j : Nat) t v, Tryd.f4.params[j]? = some t → args[j]? = some v → Value.okWide Tryd.prog W .any base t v := hval0
  have hW' := hW
  obtain ⟨p, q, hA0, hV, rfl, hfz, hnd⟩ := hW
  have hA : DataW.TrodAll enc Tryd.prog W 0 (fun _ => true) true Tryd.f4.params.toList args.toList ds p := hA0
  rw [Tryd.params4] at hA hval
  obtain ⟨v0, vs0, d0, ds0, p0, q0, hargs, rfl, rfl, h0, r0⟩ := trodAll_cons hA
  obtain ⟨v1, vs1, d1, ds1, p1, q1, rfl, rfl, rfl, h1, r1⟩ := trodAll_cons r0
  obtain ⟨v2, vs2, d2, ds2, p2, q2, rfl, rfl, rfl, h2, r2⟩ := trodAll_cons r1
  obtain ⟨rfl, rfl, rfl⟩ := trodAll_nil r2
  obtain rfl : args = #[v0, v1, v2] := by cases args; simp_all
  obtain ⟨rfl, rfl⟩ := trodVars_none hV
  obtain ⟨s0, A0, c0, xs0, x0, rfl, g0, l0, x00, x01⟩ := open_d (hval 0 _ _ rfl rfl) h0
  obtain ⟨s1, A1, c1, xs1, x1, rfl, g1, l1, x10, x11⟩ := open_d (hval 1 _ _ rfl rfl) h1
  obtain ⟨a2, rfl, e2, e2', g2⟩ := open_int Tryd.underlying3 (hval 2 _ _ rfl rfl) h2
  clear hA0
  simp only [List.append_nil] at hW'
  refine (dyadReckons_any A0 c0 s0 xs0 x0 A1 c1 s1 xs1 x1 a2 W g0 l0 x00 x01 g1 l1 x10 x11 (i64_lo g2) (i64_hi g2) htab).mono fun e W' ⟨he, hb⟩ => ?_
  subst he
  have hlt := hW'.lt
  refine ⟨_, rfl, law_post (tb := 4) hW' hb rfl rfl Tryd.underlying4 rfl rfl fun sp hsp => ?_⟩
  have hr := trodAll_cons_mk (again (by kernel_rfl) (of_decide_eq_true (by kernel_rfl)) h0 hb (fun x hx => hlt x (by simp [hx])) sp (fun x hx => hsp x (by simp [hx]))) (trodAll_cons_mk (again (by kernel_rfl) (of_decide_eq_true (by kernel_rfl)) h1 hb (fun x hx => hlt x (by simp [hx])) sp (fun x hx => hsp x (by simp [hx]))) (trodAll_cons_mk (again (by kernel_rfl) (of_decide_eq_true (by kernel_rfl)) h2 hb (fun x hx => hlt x (by simp [hx])) sp (fun x hx => hsp x (by simp [hx]))) trodAll_mk0))
  simp only [List.append_nil] at hr
  exact hr
theorem row_holds : Rows.DyadReckonsSaid :=
  OpenClaim.holds_of_wide 4 Tryd.f4 rfl rfl rfl rfl rfl rfl rfl ⟨rfl, rfl, rfl, rfl, rfl⟩ rfl rfl rfl rfl rfl (by kernel_rfl) Tryd.func4 (by kernel_rfl)
    (of_decide_eq_true (by kernel_rfl)) (by unfold Func.isWrapper; first | (rw [if_pos (by decide +kernel)]; kernel_rfl) | (rw [if_neg (by decide +kernel)]; exact ⟨rfl, rfl⟩))
    (fun os started H enc _ => lifted os started H enc)
/-- THE TIED CARD. -/
theorem proved : Rows.DyadReckonsCardSaid :=
  Claim7.holds_tied_plain_at .later [] [.data] true (true, "a0ee95ec608e429a44ba4d6df51e3df1264843540f127cf759ae64bd4c51b811") false
    row_holds (fun _ h => by cases h) (by kernel_rfl) (fun _ h => by cases h) dyadReckons_row_tie rfl ⟨rfl, rfl⟩ (by kernel_rfl) rfl
    (fun f fn hf hfn => by
      obtain rfl : f = 4 := Option.some.inj ((show Tryd.prog.funcNamed Rows.dyadReckonsRow.func = some 4 by kernel_rfl).symm.trans hf) |>.symm
      obtain rfl : fn = Tryd.f4 := (Option.some.inj (Tryd.func4.symm.trans hfn)).symm
      exact ⟨by kernel_rfl, fun j t ht => by
        have hall : (Tryd.f4.params.toList.all fun u => !Tryd.prog.wantsStandIn u) = true := by kernel_rfl
        exact (show Tryd.prog.wantsStandIn t = false by simpa using List.all_eq_true.1 hall t (Array.mem_toList_iff.2 (Array.mem_of_getElem? ht)))⟩)
    (by kernel_rfl)
end Go.Proofs.YtaciohjobenipaaDoor.dyadReckons
end
