import Derived.Test.YtijodbjdajddoaaGreatDoorMB6
import Derived.Test.YtijodbjdajddoaaGreatDoorTie
import Derived.Test.YtijodbjdajddoaaGreatDoorCards
import Derived.SevenTiedAt
import Derived.OpenShut
import Derived.ChangeMaps5
section
/-
  IvMiddle.
-/
namespace Go.Proofs.YtijodbjdajddoaaGreatDoor
open Go.RowKit
set_option linter.unusedSimpArgs false
set_option linter.unusedVariables false
theorem mid_between {p : Nat} {s o : St} {m : Qn} (h1 : 1 ≤ p) (h : RdQ ((qr s.lo + qr s.hi) / 2) p false m) (ho : OutR p s o) (os : qr s.lo ≤ qr s.hi) : qr o.lo ≤ qr m ∧ qr m ≤ qr s.hi := by
  have e : (qr s.lo + qr s.hi) / 2 = (qr s.lo + qr s.hi) * (1 / 2 : Rat) := by
    rw [Rat.div_def]; congr 1; decide +kernel
  rw [e] at h
  refine ⟨rd_mono h1 ho.1 h (by grind), ?_⟩
  have := rd_le h
  grind
theorem wide_has {s w : St} {d : Qn} (os : qr s.lo ≤ qr s.hi) (hd : qr d = qr s.hi - qr s.lo) (h1 : qr w.lo ≤ qr s.lo - qr d) (h2 : qr s.hi + qr d ≤ qr w.hi) : Ins (qr s.lo - qr d) w ∧ Ins (qr s.hi + qr d) w := by
  unfold Ins
  rw [hd] at *
  exact ⟨⟨h1, by grind⟩, by grind, h2⟩

set_option maxHeartbeats 8000000 in
set_option maxRecDepth 100000 in
theorem ivMiddle_any  (Ax : Option Addr) (cx : Nat) (sx : Bool) (xsx : List Nat) (ex : Int) (Ay : Option Addr) (cy : Nat) (sy : Bool) (xsy : List Nat) (ey : Int) (p : Int) (w : World)  (hx : Dg w Ax cx xsx) (lx : xsx.length ≤ 9223372036854775807) (ex0 : -9223372036854775808 ≤ ex) (ex1 : ex ≤ 9223372036854775807) (hy : Dg w Ay cy xsy) (ly : xsy.length ≤ 9223372036854775807) (ey0 : -9223372036854775808 ≤ ey) (ey1 : ey ≤ 9223372036854775807) (p0 : -9223372036854775808 ≤ p) (p1 : p ≤ 9223372036854775807) (hT : T32 w):
    Calls Tryz.prog 7 #[.agg #[.bool sx, .slice Ax xsx.length cx, .int .i64 ex], .agg #[.bool sy, .slice Ay xsy.length cy, .int .i64 ey], .int .i64 p] w fun e w' => e = .returned (.bool true) ∧ Below w.heap.size w w' := by
  obtain ⟨qx, hqx⟩ : ∃ q, tq sx xsx ex = q := ⟨_, rfl⟩
  have bdx : Qb (-90) 218 qx := hqx ▸ tq_bd hx.2.1
  have LXx := Lib.hid lx
  have Ex := Lib.hid (And.intro ex0 ex1)
  have HQx := Lib.hid hqx
  obtain ⟨qy, hqy⟩ : ∃ q, tq sy xsy ey = q := ⟨_, rfl⟩
  have bdy : Qb (-90) 218 qy := hqy ▸ tq_bd hy.2.1
  have LXy := Lib.hid ly
  have Ey := Lib.hid (And.intro ey0 ey1)
  have HQy := Lib.hid hqy
  obtain ⟨Pp, hPp⟩ : ∃ vv, precI p = vv := ⟨_, rfl⟩
  have hPbp := precI_bd p
  rw [hPp] at hPbp
  obtain ⟨kp, hkp⟩ : ∃ k : Nat, (k : Int) = Pp := ⟨Pp.toNat, by omega⟩
  have HPp := Lib.hid hPp
  have PCp := Lib.hid (show Pc kp Pp from ⟨hkp, by omega, by omega⟩)
  have Qp := Lib.hid (And.intro p0 p1)
  have hk2p : 1 ≤ kp := by omega
  have hk3p : kp ≤ 150 := by omega
  obtain ⟨a, ha⟩ : ∃ s, spanS qx qy = s := ⟨_, rfl⟩
  have sa_b : Sb (-90) 218 a := ha ▸ spanS_sb bdx bdy
  have Ha := Lib.hid ha
  have Oa := Lib.hid (sa_b.ok (by omega) (by omega))
  obtain ⟨m, hm, bm, rm⟩ := mid_ex hk2p sa_b (by omega) (by omega)
  obtain ⟨o, ho, bo, _, _⟩ := out_ex hk2p sa_b (by omega) (by omega)
  obtain ⟨d, hd⟩ := isQ_sub a.hi a.lo
  have bd := sa_b.2.1.sub sa_b.1 hd
  obtain ⟨l, hl⟩ := isQ_sub a.lo d
  have bl_ := (sa_b.1.mono (by omega) (by omega)).sub bd hl
  obtain ⟨h, hh⟩ := isQ_add a.hi d
  have bh := (sa_b.2.1.mono (by omega) (by omega)).add bd hh
  have d0 : 0 ≤ d.1 := dv_nonneg.1 (show 0 ≤ qr d by rw [isq_v hd]; have := sa_b.2.2; grind)
  obtain ⟨v, hv, bv, v1, v2⟩ := wide_ex hk2p (sa_b.mono (L' := -90) (H' := 219) (by omega) (by omega)) bd d0 (by omega) (by omega)
  have mb := mid_between hk2p rm ho sa_b.2.2
  have wh := wide_has sa_b.2.2 (isq_v hd) v1 v2
  rw [← isq_v hl, ← isq_v hh] at wh
  obtain ⟨j1, cj1⟩ : ∃ v, cmpd (qr o.lo) (qr m) = v := ⟨_, rfl⟩
  have dj1 := Lib.hid (show decide (j1 ≤ 0) = true by rw [decide_eq_true_eq, ← cj1]; exact cmpd_le.2 (mb.1))
  have Cj1 := Lib.hid cj1
  obtain ⟨j2, cj2⟩ : ∃ v, cmpd (qr m) (qr a.hi) = v := ⟨_, rfl⟩
  have dj2 := Lib.hid (show decide (j2 ≤ 0) = true by rw [decide_eq_true_eq, ← cj2]; exact cmpd_le.2 (mb.2))
  have Cj2 := Lib.hid cj2
  have Om := Lib.hid (bm.ok (by omega) (by omega))
  have Oo := Lib.hid (bo.ok (by omega) (by omega))
  have Od := Lib.hid (bd.ok (by omega) (by omega))
  have Ol := Lib.hid (bl_.ok (by omega) (by omega))
  have Oh := Lib.hid (bh.ok (by omega) (by omega))
  have Ov := Lib.hid (bv.ok (by omega) (by omega))
  have Hm := Lib.hid hm
  have Ho := Lib.hid ho
  have Hd := Lib.hid hd
  have Hl := Lib.hid hl
  have Hh := Lib.hid hh
  have Hv := Lib.hid hv
  have W1 := Lib.hid (decide_eq_true wh.1)
  have W2 := Lib.hid (decide_eq_true wh.2)
  have HT := Lib.hid hT
  clear hT
  have L0 := Lib.hid (((live_start w).add hx).add hy)
  clear hx lx ex0 ex1 hqx bdx hy ly ey0 ey1 hqy bdy p0 p1 hPp hPbp hkp ha sa_b hm bm rm ho bo hd bd hl bl_ hh bh d0 hv bv v1 v2 mb wh cj1 cj2 hk2p hk3p
  go_enter Tryz.func7, Tryz.ntmps7
  go_wp2_with fail
  obtain ⟨v1, hW, hb, Rx_1, Ry_1⟩ := new2 w (.cells #[.bool sx, .slice Ax xsx.length cx, .int .i64 ex] 26) (.cells #[.bool sy, .slice Ay xsy.length cy, .int .i64 ey] 26)
  rw [← hW]
  have L1 := ls L0 hb
  have Gx := gl0 L0.out
  have Gy := gl1 L0.out
  have Nxy : w.heap.size < w.heap.size + 1 := by omega
  clear hW hb
  refine (iexamples_any _ (t32_live HT.out L1.out)).mono ?_
  rintro e w2 ⟨rfl, hb⟩
  have L2 := ls L1 hb
  have Rx_2 := co Rx_1 hb
  have Ry_2 := co Ry_1 hb
  clear hb 
  go_wp2_with fail
  refine (precI_any (q := Pp) Qp.out.1 Qp.out.2 HPp.out).mono ?_
  rintro e w3 ⟨rfl, rfl⟩
  go_wp2_with fail
  refine (inew_ok Pp _ (by have := PCp.out; unfold Pc at this; omega) (by have := PCp.out; unfold Pc at this; omega)).mono ?_
  rintro e w4 ⟨rfl, hw0⟩
  subst hw0
  obtain ⟨w5, hW, hb, Rk_5⟩ := new1 w2 (.cells #[.int .i64 0, .int .i64 Pp] 45)
  rw [← hW]
  have L5 := ls L2 hb
  have Rx_5 := co Rx_2 hb
  have Ry_5 := co Ry_2 hb
  have Gk := gl0 L2.out
  have Nxk := nl0 Rx_2.out
  have Nyk := nl0 Ry_2.out
  clear hW hb
  obtain ⟨fx0, zx0, fx1, zx1, fx2, zx2, xx⟩ := ly3 Rx_5.out
  obtain ⟨fy0, zy0, fy1, zy1, fy2, zy2, xy⟩ := ly3 Ry_5.out
  go_wp2_with fail
  refine (span_any (L5.out.get (A := Ax) (c := cx) (xs := xsx) (by simp)) LXx.out Ex.out.1 Ex.out.2 (L5.out.get (A := Ay) (c := cy) (xs := xsy) (by simp)) LXy.out Ey.out.1 Ey.out.2 (t32_live HT.out L5.out) HQx.out HQy.out Ha.out).mono ?_
  rintro e w6 ⟨A6, c6, B6, d6, rfl, hd, he, hb⟩
  have L6 := la2 L5 hb hd he
  clear fx0 zx0 fx1 zx1 fx2 zx2 xx fy0 zy0 fy1 zy1 fy2 zy2 xy
  have Rx_6 := co Rx_5 hb
  have Ry_6 := co Ry_5 hb
  have Rk_6 := co Rk_5 hb
  clear hb hd he
  obtain ⟨fk0, zk0, fk1, zk1, xk⟩ := ly2 Rk_6.out
  go_wp2_with fail
  obtain ⟨w7, hW, hb, Rba_7⟩ := new1 w6 (.cells #[.bool (decide (a.lo.1 < 0)), .slice A6 (digs a.lo.1.natAbs).length c6, .int .i64 a.lo.2, .bool (decide (a.hi.1 < 0)), .slice B6 (digs a.hi.1.natAbs).length d6, .int .i64 a.hi.2] 34)
  rw [← hW]
  have L7 := ls L6 hb
  have Rx_7 := co Rx_6 hb
  have Ry_7 := co Ry_6 hb
  have Rk_7 := co Rk_6 hb
  have Gba := gl0 L6.out
  have Nxba := nl0 Rx_6.out
  have Nyba := nl0 Ry_6.out
  have Nkba := nl0 Rk_6.out
  clear hW hb
  clear fk0 zk0 fk1 zk1 xk
  refine (cmid (L7.out.get (A := A6) (c := c6) (xs := digs a.lo.1.natAbs) (by simp)) (L7.out.get (A := B6) (c := d6) (xs := digs a.hi.1.natAbs) (by simp)) Oa.out PCp.out (t32_live HT.out L7.out) Rk_7.out Hm.out).mono ?_
  rintro e w8 ⟨A8, c8, rfl, hd, hb⟩
  have L8 := la L7 hb hd
  have Rx_8 := co Rx_7 hb
  have Ry_8 := co Ry_7 hb
  have Rk_8 := co Rk_7 hb
  have Rba_8 := co Rba_7 hb
  clear hb hd
  obtain ⟨fk0, zk0, fk1, zk1, xk⟩ := ly2 Rk_8.out
  obtain ⟨fba0, zba0, fba1, zba1, fba2, zba2, fba3, zba3, fba4, zba4, fba5, zba5, xba⟩ := ly6 Rba_8.out
  go_wp2_with fail
  obtain ⟨w9, hW, hb, Rbm_9⟩ := new1 w8 (.cells #[.bool (decide (m.1 < 0)), .slice A8 (digs m.1.natAbs).length c8, .int .i64 m.2] 26)
  rw [← hW]
  have L9 := ls L8 hb
  have Rx_9 := co Rx_8 hb
  have Ry_9 := co Ry_8 hb
  have Rk_9 := co Rk_8 hb
  have Rba_9 := co Rba_8 hb
  have Gbm := gl0 L8.out
  have Nxbm := nl0 Rx_8.out
  have Nybm := nl0 Ry_8.out
  have Nkbm := nl0 Rk_8.out
  have Nbabm := nl0 Rba_8.out
  clear hW hb
  clear fk0 zk0 fk1 zk1 xk fba0 zba0 fba1 zba1 fba2 zba2 fba3 zba3 fba4 zba4 fba5 zba5 xba
  refine (cout (L9.out.get (A := A6) (c := c6) (xs := digs a.lo.1.natAbs) (by simp)) (L9.out.get (A := B6) (c := d6) (xs := digs a.hi.1.natAbs) (by simp)) Oa.out PCp.out (t32_live HT.out L9.out) Rk_9.out Ho.out).mono ?_
  rintro e w10 ⟨A10, c10, B10, d10, rfl, hd, he, hb⟩
  have L10 := la2 L9 hb hd he
  have Rx_10 := co Rx_9 hb
  have Ry_10 := co Ry_9 hb
  have Rk_10 := co Rk_9 hb
  have Rba_10 := co Rba_9 hb
  have Rbm_10 := co Rbm_9 hb
  clear hb hd he
  obtain ⟨fba0, zba0, fba1, zba1, fba2, zba2, fba3, zba3, fba4, zba4, fba5, zba5, xba⟩ := ly6 Rba_10.out
  go_wp2_with fail
  obtain ⟨w11, hW, hb, Rbo_11⟩ := new1 w10 (.cells #[.bool (decide (o.lo.1 < 0)), .slice A10 (digs o.lo.1.natAbs).length c10, .int .i64 o.lo.2, .bool (decide (o.hi.1 < 0)), .slice B10 (digs o.hi.1.natAbs).length d10, .int .i64 o.hi.2] 34)
  rw [← hW]
  have L11 := ls L10 hb
  have Rx_11 := co Rx_10 hb
  have Ry_11 := co Ry_10 hb
  have Rk_11 := co Rk_10 hb
  have Rba_11 := co Rba_10 hb
  have Rbm_11 := co Rbm_10 hb
  have Gbo := gl0 L10.out
  have Nxbo := nl0 Rx_10.out
  have Nybo := nl0 Ry_10.out
  have Nkbo := nl0 Rk_10.out
  have Nbabo := nl0 Rba_10.out
  have Nbmbo := nl0 Rbm_10.out
  clear hW hb
  clear fba0 zba0 fba1 zba1 fba2 zba2 fba3 zba3 fba4 zba4 fba5 zba5 xba
  refine (qsub (L11.out.get (A := B6) (c := d6) (xs := digs a.hi.1.natAbs) (by simp)) (L11.out.get (A := A6) (c := c6) (xs := digs a.lo.1.natAbs) (by simp)) Oa.out.2.1 Oa.out.1 (t32_live HT.out L11.out) Hd.out Od.out).mono ?_
  rintro e w12 ⟨A12, c12, rfl, hd, hb⟩
  have L12 := la L11 hb hd
  have Rx_12 := co Rx_11 hb
  have Ry_12 := co Ry_11 hb
  have Rk_12 := co Rk_11 hb
  have Rba_12 := co Rba_11 hb
  have Rbm_12 := co Rbm_11 hb
  have Rbo_12 := co Rbo_11 hb
  clear hb hd
  obtain ⟨fba0, zba0, fba1, zba1, fba2, zba2, fba3, zba3, fba4, zba4, fba5, zba5, xba⟩ := ly6 Rba_12.out
  go_wp2_with fail
  obtain ⟨w13, hW, hb, Rbd_13⟩ := new1 w12 (.cells #[.bool (decide (d.1 < 0)), .slice A12 (digs d.1.natAbs).length c12, .int .i64 d.2] 26)
  rw [← hW]
  have L13 := ls L12 hb
  have Rx_13 := co Rx_12 hb
  have Ry_13 := co Ry_12 hb
  have Rk_13 := co Rk_12 hb
  have Rba_13 := co Rba_12 hb
  have Rbm_13 := co Rbm_12 hb
  have Rbo_13 := co Rbo_12 hb
  have Gbd := gl0 L12.out
  have Nxbd := nl0 Rx_12.out
  have Nybd := nl0 Ry_12.out
  have Nkbd := nl0 Rk_12.out
  have Nbabd := nl0 Rba_12.out
  have Nbmbd := nl0 Rbm_12.out
  have Nbobd := nl0 Rbo_12.out
  clear hW hb
  clear fba0 zba0 fba1 zba1 fba2 zba2 fba3 zba3 fba4 zba4 fba5 zba5 xba
  refine (qsub (L13.out.get (A := A6) (c := c6) (xs := digs a.lo.1.natAbs) (by simp)) (L13.out.get (A := A12) (c := c12) (xs := digs d.1.natAbs) (by simp)) Oa.out.1 Od.out (t32_live HT.out L13.out) Hl.out Ol.out).mono ?_
  rintro e w14 ⟨A14, c14, rfl, hd, hb⟩
  have L14 := la L13 hb hd
  have Rx_14 := co Rx_13 hb
  have Ry_14 := co Ry_13 hb
  have Rk_14 := co Rk_13 hb
  have Rba_14 := co Rba_13 hb
  have Rbm_14 := co Rbm_13 hb
  have Rbo_14 := co Rbo_13 hb
  have Rbd_14 := co Rbd_13 hb
  clear hb hd
  obtain ⟨fba0, zba0, fba1, zba1, fba2, zba2, fba3, zba3, fba4, zba4, fba5, zba5, xba⟩ := ly6 Rba_14.out
  obtain ⟨fbd0, zbd0, fbd1, zbd1, fbd2, zbd2, xbd⟩ := ly3 Rbd_14.out
  go_wp2_with fail
  obtain ⟨w15, hW, hb, Rbl_15⟩ := new1 w14 (.cells #[.bool (decide (l.1 < 0)), .slice A14 (digs l.1.natAbs).length c14, .int .i64 l.2] 26)
  rw [← hW]
  have L15 := ls L14 hb
  have Rx_15 := co Rx_14 hb
  have Ry_15 := co Ry_14 hb
  have Rk_15 := co Rk_14 hb
  have Rba_15 := co Rba_14 hb
  have Rbm_15 := co Rbm_14 hb
  have Rbo_15 := co Rbo_14 hb
  have Rbd_15 := co Rbd_14 hb
  have Gbl := gl0 L14.out
  have Nxbl := nl0 Rx_14.out
  have Nybl := nl0 Ry_14.out
  have Nkbl := nl0 Rk_14.out
  have Nbabl := nl0 Rba_14.out
  have Nbmbl := nl0 Rbm_14.out
  have Nbobl := nl0 Rbo_14.out
  have Nbdbl := nl0 Rbd_14.out
  clear hW hb
  clear fba0 zba0 fba1 zba1 fba2 zba2 fba3 zba3 fba4 zba4 fba5 zba5 xba fbd0 zbd0 fbd1 zbd1 fbd2 zbd2 xbd
  refine (qadd (L15.out.get (A := B6) (c := d6) (xs := digs a.hi.1.natAbs) (by simp)) (L15.out.get (A := A12) (c := c12) (xs := digs d.1.natAbs) (by simp)) Oa.out.2.1 Od.out (t32_live HT.out L15.out) Hh.out Oh.out).mono ?_
  rintro e w16 ⟨A16, c16, rfl, hd, hb⟩
  have L16 := la L15 hb hd
  have Rx_16 := co Rx_15 hb
  have Ry_16 := co Ry_15 hb
  have Rk_16 := co Rk_15 hb
  have Rba_16 := co Rba_15 hb
  have Rbm_16 := co Rbm_15 hb
  have Rbo_16 := co Rbo_15 hb
  have Rbd_16 := co Rbd_15 hb
  have Rbl_16 := co Rbl_15 hb
  clear hb hd
  obtain ⟨fk0, zk0, fk1, zk1, xk⟩ := ly2 Rk_16.out
  obtain ⟨fba0, zba0, fba1, zba1, fba2, zba2, fba3, zba3, fba4, zba4, fba5, zba5, xba⟩ := ly6 Rba_16.out
  obtain ⟨fbd0, zbd0, fbd1, zbd1, fbd2, zbd2, xbd⟩ := ly3 Rbd_16.out
  go_wp2_with fail
  obtain ⟨w17, hW, hb, Rbh_17⟩ := new1 w16 (.cells #[.bool (decide (h.1 < 0)), .slice A16 (digs h.1.natAbs).length c16, .int .i64 h.2] 26)
  rw [← hW]
  have L17 := ls L16 hb
  have Rx_17 := co Rx_16 hb
  have Ry_17 := co Ry_16 hb
  have Rk_17 := co Rk_16 hb
  have Rba_17 := co Rba_16 hb
  have Rbm_17 := co Rbm_16 hb
  have Rbo_17 := co Rbo_16 hb
  have Rbd_17 := co Rbd_16 hb
  have Rbl_17 := co Rbl_16 hb
  have Gbh := gl0 L16.out
  have Nxbh := nl0 Rx_16.out
  have Nybh := nl0 Ry_16.out
  have Nkbh := nl0 Rk_16.out
  have Nbabh := nl0 Rba_16.out
  have Nbmbh := nl0 Rbm_16.out
  have Nbobh := nl0 Rbo_16.out
  have Nbdbh := nl0 Rbd_16.out
  have Nblbh := nl0 Rbl_16.out
  clear hW hb
  clear fk0 zk0 fk1 zk1 xk fba0 zba0 fba1 zba1 fba2 zba2 fba3 zba3 fba4 zba4 fba5 zba5 xba fbd0 zbd0 fbd1 zbd1 fbd2 zbd2 xbd
  refine (cwide (L17.out.get (A := A6) (c := c6) (xs := digs a.lo.1.natAbs) (by simp)) (L17.out.get (A := B6) (c := d6) (xs := digs a.hi.1.natAbs) (by simp)) Oa.out (L17.out.get (A := A12) (c := c12) (xs := digs d.1.natAbs) (by simp)) Od.out PCp.out (t32_live HT.out L17.out) Rk_17.out Hv.out).mono ?_
  rintro e w18 ⟨A18, c18, B18, d18, rfl, hd, he, hb⟩
  have L18 := la2 L17 hb hd he
  have Rx_18 := co Rx_17 hb
  have Ry_18 := co Ry_17 hb
  have Rk_18 := co Rk_17 hb
  have Rba_18 := co Rba_17 hb
  have Rbm_18 := co Rbm_17 hb
  have Rbo_18 := co Rbo_17 hb
  have Rbd_18 := co Rbd_17 hb
  have Rbl_18 := co Rbl_17 hb
  have Rbh_18 := co Rbh_17 hb
  clear hb hd he
  obtain ⟨fbo0, zbo0, fbo1, zbo1, fbo2, zbo2, fbo3, zbo3, fbo4, zbo4, fbo5, zbo5, xbo⟩ := ly6 Rbo_18.out
  obtain ⟨fbm0, zbm0, fbm1, zbm1, fbm2, zbm2, xbm⟩ := ly3 Rbm_18.out
  go_wp2_with fail
  obtain ⟨w19, hW, hb, Rbv_19⟩ := new1 w18 (.cells #[.bool (decide (v.lo.1 < 0)), .slice A18 (digs v.lo.1.natAbs).length c18, .int .i64 v.lo.2, .bool (decide (v.hi.1 < 0)), .slice B18 (digs v.hi.1.natAbs).length d18, .int .i64 v.hi.2] 34)
  rw [← hW]
  have L19 := ls L18 hb
  have Rx_19 := co Rx_18 hb
  have Ry_19 := co Ry_18 hb
  have Rk_19 := co Rk_18 hb
  have Rba_19 := co Rba_18 hb
  have Rbm_19 := co Rbm_18 hb
  have Rbo_19 := co Rbo_18 hb
  have Rbd_19 := co Rbd_18 hb
  have Rbl_19 := co Rbl_18 hb
  have Rbh_19 := co Rbh_18 hb
  have Gbv := gl0 L18.out
  have Nxbv := nl0 Rx_18.out
  have Nybv := nl0 Ry_18.out
  have Nkbv := nl0 Rk_18.out
  have Nbabv := nl0 Rba_18.out
  have Nbmbv := nl0 Rbm_18.out
  have Nbobv := nl0 Rbo_18.out
  have Nbdbv := nl0 Rbd_18.out
  have Nblbv := nl0 Rbl_18.out
  have Nbhbv := nl0 Rbh_18.out
  clear hW hb
  clear fbo0 zbo0 fbo1 zbo1 fbo2 zbo2 fbo3 zbo3 fbo4 zbo4 fbo5 zbo5 xbo fbm0 zbm0 fbm1 zbm1 fbm2 zbm2 xbm
  refine (qcmp (L19.out.get (A := A10) (c := c10) (xs := digs o.lo.1.natAbs) (by simp)) (L19.out.get (A := A8) (c := c8) (xs := digs m.1.natAbs) (by simp)) Oo.out.1 Om.out Cj1.out).mono ?_
  rintro e w20 ⟨rfl, hb⟩
  have L20 := ls L19 hb
  have Rx_20 := co Rx_19 hb
  have Ry_20 := co Ry_19 hb
  have Rk_20 := co Rk_19 hb
  have Rba_20 := co Rba_19 hb
  have Rbm_20 := co Rbm_19 hb
  have Rbo_20 := co Rbo_19 hb
  have Rbd_20 := co Rbd_19 hb
  have Rbl_20 := co Rbl_19 hb
  have Rbh_20 := co Rbh_19 hb
  have Rbv_20 := co Rbv_19 hb
  clear hb 
  have e1 := dj1.out
  obtain ⟨fba0, zba0, fba1, zba1, fba2, zba2, fba3, zba3, fba4, zba4, fba5, zba5, xba⟩ := ly6 Rba_20.out
  obtain ⟨fbm0, zbm0, fbm1, zbm1, fbm2, zbm2, xbm⟩ := ly3 Rbm_20.out
  go_wp2_with fail
  refine (qcmp (L20.out.get (A := A8) (c := c8) (xs := digs m.1.natAbs) (by simp)) (L20.out.get (A := B6) (c := d6) (xs := digs a.hi.1.natAbs) (by simp)) Om.out Oa.out.2.1 Cj2.out).mono ?_
  rintro e w21 ⟨rfl, hb⟩
  have L21 := ls L20 hb
  clear fba0 zba0 fba1 zba1 fba2 zba2 fba3 zba3 fba4 zba4 fba5 zba5 xba fbm0 zbm0 fbm1 zbm1 fbm2 zbm2 xbm
  have Rx_21 := co Rx_20 hb
  have Ry_21 := co Ry_20 hb
  have Rk_21 := co Rk_20 hb
  have Rba_21 := co Rba_20 hb
  have Rbm_21 := co Rbm_20 hb
  have Rbo_21 := co Rbo_20 hb
  have Rbd_21 := co Rbd_20 hb
  have Rbl_21 := co Rbl_20 hb
  have Rbh_21 := co Rbh_20 hb
  have Rbv_21 := co Rbv_20 hb
  clear hb 
  have e2 := dj2.out
  obtain ⟨fbv0, zbv0, fbv1, zbv1, fbv2, zbv2, fbv3, zbv3, fbv4, zbv4, fbv5, zbv5, xbv⟩ := ly6 Rbv_21.out
  obtain ⟨fbl0, zbl0, fbl1, zbl1, fbl2, zbl2, xbl⟩ := ly3 Rbl_21.out
  go_wp2_with fail
  refine (chas (L21.out.get (A := A18) (c := c18) (xs := digs v.lo.1.natAbs) (by simp)) (L21.out.get (A := B18) (c := d18) (xs := digs v.hi.1.natAbs) (by simp)) Ov.out (L21.out.get (A := A14) (c := c14) (xs := digs l.1.natAbs) (by simp)) Ol.out W1.out).mono ?_
  rintro e w22 ⟨rfl, hb⟩
  have L22 := ls L21 hb
  clear fbv0 zbv0 fbv1 zbv1 fbv2 zbv2 fbv3 zbv3 fbv4 zbv4 fbv5 zbv5 xbv fbl0 zbl0 fbl1 zbl1 fbl2 zbl2 xbl
  have Rx_22 := co Rx_21 hb
  have Ry_22 := co Ry_21 hb
  have Rk_22 := co Rk_21 hb
  have Rba_22 := co Rba_21 hb
  have Rbm_22 := co Rbm_21 hb
  have Rbo_22 := co Rbo_21 hb
  have Rbd_22 := co Rbd_21 hb
  have Rbl_22 := co Rbl_21 hb
  have Rbh_22 := co Rbh_21 hb
  have Rbv_22 := co Rbv_21 hb
  clear hb 
  obtain ⟨fbv0, zbv0, fbv1, zbv1, fbv2, zbv2, fbv3, zbv3, fbv4, zbv4, fbv5, zbv5, xbv⟩ := ly6 Rbv_22.out
  obtain ⟨fbh0, zbh0, fbh1, zbh1, fbh2, zbh2, xbh⟩ := ly3 Rbh_22.out
  go_wp2_with fail
  refine (chas (L22.out.get (A := A18) (c := c18) (xs := digs v.lo.1.natAbs) (by simp)) (L22.out.get (A := B18) (c := d18) (xs := digs v.hi.1.natAbs) (by simp)) Ov.out (L22.out.get (A := A16) (c := c16) (xs := digs h.1.natAbs) (by simp)) Oh.out W2.out).mono ?_
  rintro e w23 ⟨rfl, hb⟩
  have L23 := ls L22 hb
  clear fbv0 zbv0 fbv1 zbv1 fbv2 zbv2 fbv3 zbv3 fbv4 zbv4 fbv5 zbv5 xbv fbh0 zbh0 fbh1 zbh1 fbh2 zbh2 xbh
  have Rx_23 := co Rx_22 hb
  have Ry_23 := co Ry_22 hb
  have Rk_23 := co Rk_22 hb
  have Rba_23 := co Rba_22 hb
  have Rbm_23 := co Rbm_22 hb
  have Rbo_23 := co Rbo_22 hb
  have Rbd_23 := co Rbd_22 hb
  have Rbl_23 := co Rbl_22 hb
  have Rbh_23 := co Rbh_22 hb
  have Rbv_23 := co Rbv_22 hb
  clear hb 
  obtain ⟨fk0, zk0, fk1, zk1, xk⟩ := ly2 Rk_23.out
  go_wp2_with fail
  refine (ierr_any w2.heap.size 0 _ (row_c Rk_23.out (i := 0) rfl)).mono ?_
  rintro e w24 ⟨rfl, rfl⟩
  clear fk0 zk0 fk1 zk1 xk
  go_wp2
  go_ret
  exact ⟨rfl, L23.out.1⟩
end Go.Proofs.YtijodbjdajddoaaGreatDoor
end

section
/-
  IvMiddle, FOR EVERY ARGUMENT: the law returns true, and each argument reads behind the call as it read ahead of it. THE TIED CARD.
-/
namespace Go.Proofs.YtijodbjdajddoaaGreatDoor.ivMiddle
open Go Go.ChangeShapes Go.WideShapes Go.ChangeAt Go.RowKit
set_option linter.unusedVariables false
/-- The door's own heap meets the condition. -/
theorem door_met (os : Os) (args : Array Value) : laidMetH Tryz.prog Rows.ivMiddleRow.laid ((World.doorLaid Tryz.prog 400 os).forCall (fun _ _ => 0) ⟨#[], args, []⟩).memory :=
  laidMetH_of_parts3 (fuel := 8) (laidMet_of_run' 8 (by kernel_rfl) (by kernel_rfl)) (by kernel_rfl) (by kernel_rfl)
set_option maxRecDepth 100000 in
theorem lifted (os : Os) (started : os.Started) (H : Type) (enc : TypeId × Value → H) :
    ReturnsInHanded {} Tryz.checked os 7 .any (fun w args => (Rows.ivMiddleSpec.pre enc Tryz.prog Tryz.f7 [] false w args ∧ laidMetH Tryz.prog Rows.ivMiddleRow.laid w) ∧ sizedMet enc Tryz.prog Tryz.f7 (OpenSpec.ofChange Rows.ivMiddleSpec) false w args)
      (Rows.ivMiddleSpec.post enc Tryz.prog Tryz.f7 false true false false) := by
  refine returnsInHanded_of_change_and (C := Tryz.checked) (X := fun w _ => laidMetH Tryz.prog Rows.ivMiddleRow.laid w) (fun _ _ _ hh h => h.of_heap hh) own started (by kernel_rfl) Tryz.func7
    (ChangeSpec.witness_shaped (enc := enc) (C := Tryz.checked) (os := os) (X := fun w _ => laidMetH Tryz.prog Rows.ivMiddleRow.laid w) false (World.doorLaid Tryz.prog 400 os) #[.agg #[.bool false, .slice none 0 0, .int .i64 0], .agg #[.bool false, .slice none 0 0, .int .i64 0], .int .i64 0] 8 rfl (World.shaped_of_RefB (by kernel_rfl) (by kernel_rfl)) (by kernel_rfl) (by kernel_rfl) (by kernel_rfl) (door_met os _)) ?_
  intro W base args ds gs before hval0 hW _ _ hL _
  rw [MakeChecks.laidMetH_plain _ _ _ (by kernel_rfl)] at hL
  have htab := t32_laid hL
  clear hL
  have hval : ∀ (j : Nat) t v, Tryz.f7.params[j]? = some t → args[j]? = some v → Value.okWide Tryz.prog W .any base t v := hval0
  have hW' := hW
  obtain ⟨p, q, hA0, hV, rfl, hfz, hnd⟩ := hW
  have hA : DataW.TrodAll enc Tryz.prog W 0 (fun _ => true) true Tryz.f7.params.toList args.toList ds p := hA0
  rw [Tryz.params7] at hA hval
  obtain ⟨v0, vs0, d0, ds0, p0, q0, hargs, rfl, rfl, h0, r0⟩ := trodAll_cons hA
  obtain ⟨v1, vs1, d1, ds1, p1, q1, rfl, rfl, rfl, h1, r1⟩ := trodAll_cons r0
  obtain ⟨v2, vs2, d2, ds2, p2, q2, rfl, rfl, rfl, h2, r2⟩ := trodAll_cons r1
  obtain ⟨rfl, rfl, rfl⟩ := trodAll_nil r2
  obtain rfl : args = #[v0, v1, v2] := by cases args; simp_all
  obtain ⟨rfl, rfl⟩ := trodVars_none hV
  obtain ⟨s0, A0, c0, xs0, x0, rfl, g0, l0, x00, x01⟩ := open_d (hval 0 _ _ rfl rfl) h0
  obtain ⟨s1, A1, c1, xs1, x1, rfl, g1, l1, x10, x11⟩ := open_d (hval 1 _ _ rfl rfl) h1
  obtain ⟨a2, rfl, e2, e2', g2⟩ := open_int Tryz.underlying3 (hval 2 _ _ rfl rfl) h2
  clear hA0
  simp only [List.append_nil] at hW'
  refine (ivMiddle_any A0 c0 s0 xs0 x0 A1 c1 s1 xs1 x1 a2 W g0 l0 x00 x01 g1 l1 x10 x11 (i64_lo g2) (i64_hi g2) htab).mono fun e W' ⟨he, hb⟩ => ?_
  subst he
  have hlt := hW'.lt
  refine ⟨_, rfl, law_post (tb := 4) hW' hb rfl rfl Tryz.underlying4 rfl rfl fun sp hsp => ?_⟩
  have hr := trodAll_cons_mk (again (by kernel_rfl) (of_decide_eq_true (by kernel_rfl)) h0 hb (fun x hx => hlt x (by simp [hx])) sp (fun x hx => hsp x (by simp [hx]))) (trodAll_cons_mk (again (by kernel_rfl) (of_decide_eq_true (by kernel_rfl)) h1 hb (fun x hx => hlt x (by simp [hx])) sp (fun x hx => hsp x (by simp [hx]))) (trodAll_cons_mk (again (by kernel_rfl) (of_decide_eq_true (by kernel_rfl)) h2 hb (fun x hx => hlt x (by simp [hx])) sp (fun x hx => hsp x (by simp [hx]))) trodAll_mk0))
  simp only [List.append_nil] at hr
  exact hr
theorem row_holds : Rows.IvMiddleSaid :=
  OpenClaim.holds_of_wide 7 Tryz.f7 rfl rfl rfl rfl rfl rfl rfl ⟨rfl, rfl, rfl, rfl, rfl⟩ rfl rfl rfl rfl rfl (by kernel_rfl) Tryz.func7 (by kernel_rfl)
    (of_decide_eq_true (by kernel_rfl)) (by unfold Func.isWrapper; first | (rw [if_pos (by decide +kernel)]; kernel_rfl) | (rw [if_neg (by decide +kernel)]; exact ⟨rfl, rfl⟩))
    (fun os started H enc _ => lifted os started H enc)
/-- THE TIED CARD. -/
theorem proved : Rows.IvMiddleCardSaid :=
  Claim7.holds_tied_plain_at .later [] [.data] true (true, "ce2d7296bee61de3211586e1632cf2a6cfe767e426ec5d84453dd9d1173b67cd") false
    row_holds (fun _ h => by cases h) (by kernel_rfl) (fun _ h => by cases h) ivMiddle_row_tie rfl ⟨rfl, rfl⟩ (by kernel_rfl) rfl
    (fun f fn hf hfn => by
      obtain rfl : f = 7 := Option.some.inj ((show Tryz.prog.funcNamed Rows.ivMiddleRow.func = some 7 by kernel_rfl).symm.trans hf) |>.symm
      obtain rfl : fn = Tryz.f7 := (Option.some.inj (Tryz.func7.symm.trans hfn)).symm
      exact ⟨by kernel_rfl, fun j t ht => by
        have hall : (Tryz.f7.params.toList.all fun u => !Tryz.prog.wantsStandIn u) = true := by kernel_rfl
        exact (show Tryz.prog.wantsStandIn t = false by simpa using List.all_eq_true.1 hall t (Array.mem_toList_iff.2 (Array.mem_of_getElem? ht)))⟩)
    (by kernel_rfl)
end Go.Proofs.YtijodbjdajddoaaGreatDoor.ivMiddle
end
