import Derived.Test.YtijodbjdajddoaaGreatDoorMB6
import Derived.Test.YtijodbjdajddoaaGreatDoorTie
import Derived.Test.YtijodbjdajddoaaGreatDoorCards
import Derived.SevenTiedAt
import Derived.OpenShut
import Derived.ChangeMaps5
section
/-
  IvHolds.
-/
namespace Go.Proofs.YtijodbjdajddoaaGreatDoor
open Go.RowKit
set_option linter.unusedSimpArgs false
set_option linter.unusedVariables false
theorem add_has {s t r : St} {x y : Rat} (hx : Ins x s) (hy : Ins y t) (h1 : qr r.lo ≤ qr s.lo + qr t.lo) (h2 : qr s.hi + qr t.hi ≤ qr r.hi) : Ins (x + y) r := by
  unfold Ins at *; constructor <;> grind
theorem ins_neg {s : St} {x : Rat} (h : Ins x s) : Ins (-x) (NegS s) := by
  unfold Ins NegS at *; simp only [qr_neg]; constructor <;> grind

set_option maxHeartbeats 8000000 in
set_option maxRecDepth 100000 in
theorem ivHolds_any  (Ax : Option Addr) (cx : Nat) (sx : Bool) (xsx : List Nat) (ex : Int) (Ay : Option Addr) (cy : Nat) (sy : Bool) (xsy : List Nat) (ey : Int) (Az : Option Addr) (cz : Nat) (sz : Bool) (xsz : List Nat) (ez : Int) (Av : Option Addr) (cv : Nat) (sv : Bool) (xsv : List Nat) (ev : Int) (p : Int) (how : Int) (other : Int) (w : World)  (hx : Dg w Ax cx xsx) (lx : xsx.length ≤ 9223372036854775807) (ex0 : -9223372036854775808 ≤ ex) (ex1 : ex ≤ 9223372036854775807) (hy : Dg w Ay cy xsy) (ly : xsy.length ≤ 9223372036854775807) (ey0 : -9223372036854775808 ≤ ey) (ey1 : ey ≤ 9223372036854775807) (hz : Dg w Az cz xsz) (lz : xsz.length ≤ 9223372036854775807) (ez0 : -9223372036854775808 ≤ ez) (ez1 : ez ≤ 9223372036854775807) (hv : Dg w Av cv xsv) (lv : xsv.length ≤ 9223372036854775807) (ev0 : -9223372036854775808 ≤ ev) (ev1 : ev ≤ 9223372036854775807) (p0 : -9223372036854775808 ≤ p) (p1 : p ≤ 9223372036854775807) (how0 : -9223372036854775808 ≤ how) (how1 : how ≤ 9223372036854775807) (other0 : -9223372036854775808 ≤ other) (other1 : other ≤ 9223372036854775807) (hT : T32 w):
    Calls Tryz.prog 3 #[.agg #[.bool sx, .slice Ax xsx.length cx, .int .i64 ex], .agg #[.bool sy, .slice Ay xsy.length cy, .int .i64 ey], .agg #[.bool sz, .slice Az xsz.length cz, .int .i64 ez], .agg #[.bool sv, .slice Av xsv.length cv, .int .i64 ev], .int .i64 p, .int .i64 how, .int .i64 other] w fun e w' => e = .returned (.bool true) ∧ Below w.heap.size w w' := by
  obtain ⟨qx, hqx⟩ : ∃ q, tq sx xsx ex = q := ⟨_, rfl⟩
  have bdx : Qb (-90) 218 qx := hqx ▸ tq_bd hx.2.1
  have LXx := Lib.hid lx
  have Ex := Lib.hid (And.intro ex0 ex1)
  have HQx := Lib.hid hqx
  obtain ⟨qy, hqy⟩ : ∃ q, tq sy xsy ey = q := ⟨_, rfl⟩
  have bdy : Qb (-90) 218 qy := hqy ▸ tq_bd hy.2.1
  have LXy := Lib.hid ly
  have Ey := Lib.hid (And.intro ey0 ey1)
  have HQy := Lib.hid hqy
  obtain ⟨qz, hqz⟩ : ∃ q, tq sz xsz ez = q := ⟨_, rfl⟩
  have bdz : Qb (-90) 218 qz := hqz ▸ tq_bd hz.2.1
  have LXz := Lib.hid lz
  have Ez := Lib.hid (And.intro ez0 ez1)
  have HQz := Lib.hid hqz
  obtain ⟨qv, hqv⟩ : ∃ q, tq sv xsv ev = q := ⟨_, rfl⟩
  have bdv : Qb (-90) 218 qv := hqv ▸ tq_bd hv.2.1
  have LXv := Lib.hid lv
  have Ev := Lib.hid (And.intro ev0 ev1)
  have HQv := Lib.hid hqv
  obtain ⟨Pp, hPp⟩ : ∃ vv, precI p = vv := ⟨_, rfl⟩
  have hPbp := precI_bd p
  rw [hPp] at hPbp
  obtain ⟨kp, hkp⟩ : ∃ k : Nat, (k : Int) = Pp := ⟨Pp.toNat, by omega⟩
  have HPp := Lib.hid hPp
  have PCp := Lib.hid (show Pc kp Pp from ⟨hkp, by omega, by omega⟩)
  have Qp := Lib.hid (And.intro p0 p1)
  have hk2p : 1 ≤ kp := by omega
  have hk3p : kp ≤ 150 := by omega
  have Qhow := Lib.hid (And.intro how0 how1)
  have Qother := Lib.hid (And.intro other0 other1)
  obtain ⟨a, ha⟩ : ∃ s, spanS qx qy = s := ⟨_, rfl⟩
  have sa_b : Sb (-90) 218 a := ha ▸ spanS_sb bdx bdy
  have Ha := Lib.hid ha
  have Oa := Lib.hid (sa_b.ok (by omega) (by omega))
  obtain ⟨b, hb⟩ : ∃ s, spanS qz qv = s := ⟨_, rfl⟩
  have sb_b : Sb (-90) 218 b := hb ▸ spanS_sb bdz bdv
  have Hb := Lib.hid hb
  have Ob := Lib.hid (sb_b.ok (by omega) (by omega))
  obtain ⟨m, im, bm, em⟩ := inside_ex sa_b how (by omega) (by omega)
  obtain ⟨n, in_, bn, en⟩ := inside_ex sb_b other (by omega) (by omega)
  obtain ⟨s, is_⟩ := isQ_add m n
  have bs := bm.add bn is_
  obtain ⟨d, id_⟩ := isQ_sub m n
  have bd := bm.sub bn id_
  have it := mulF_is m n
  obtain ⟨t, ht⟩ : ∃ t, mulF m n = t := ⟨_, rfl⟩
  rw [ht] at it
  have bt := bm.mul bn it
  obtain ⟨r, hr, br, r1, r2⟩ := add_ex hk2p sa_b sb_b (by omega) (by omega)
  obtain ⟨u, hu, bu, u1, u2⟩ := add_ex hk2p sa_b sb_b.neg (by omega) (by omega)
  obtain ⟨c, hc, bc, enc⟩ := mul_ex hk2p sa_b sb_b (by omega) (by omega)
  have w1 := add_has em en r1 r2
  have w2 := add_has em (ins_neg en) u1 u2
  rw [← Rat.sub_eq_add_neg] at w2
  have w3 := enc _ _ em en
  rw [← isq_v is_] at w1
  rw [← isq_v id_] at w2
  rw [← isq_v it] at w3
  have Om := Lib.hid (bm.ok (by omega) (by omega))
  have On := Lib.hid (bn.ok (by omega) (by omega))
  have Os := Lib.hid (bs.ok (by omega) (by omega))
  have Od := Lib.hid (bd.ok (by omega) (by omega))
  have Ot := Lib.hid (bt.ok (by omega) (by omega))
  have Or := Lib.hid (br.ok (by omega) (by omega))
  have Ou := Lib.hid (bu.ok (by omega) (by omega))
  have Oc := Lib.hid (bc.ok (by omega) (by omega))
  have Hm := Lib.hid im
  have Hn := Lib.hid in_
  have Hs := Lib.hid is_
  have Hd := Lib.hid id_
  have Ht := Lib.hid it
  have Hr := Lib.hid hr
  have Hu := Lib.hid hu
  have Hc := Lib.hid hc
  have W1 := Lib.hid (decide_eq_true w1)
  have W2 := Lib.hid (decide_eq_true w2)
  have W3 := Lib.hid (decide_eq_true w3)
  have HT := Lib.hid hT
  clear hT
  have L0 := Lib.hid (((((live_start w).add hx).add hy).add hz).add hv)
  clear hx lx ex0 ex1 hqx bdx hy ly ey0 ey1 hqy bdy hz lz ez0 ez1 hqz bdz hv lv ev0 ev1 hqv bdv p0 p1 hPp hPbp hkp how0 how1 other0 other1 ha sa_b hb sb_b im bm em in_ bn en is_ bs id_ bd it ht bt hr br r1 r2 hu bu u1 u2 hc bc enc w1 w2 w3 hk2p hk3p
  go_enter Tryz.func3, Tryz.ntmps3
  go_wp2_with fail
  obtain ⟨v1, hW, hb, Rx_1, Ry_1, Rz_1, Rv_1⟩ := new4 w (.cells #[.bool sx, .slice Ax xsx.length cx, .int .i64 ex] 26) (.cells #[.bool sy, .slice Ay xsy.length cy, .int .i64 ey] 26) (.cells #[.bool sz, .slice Az xsz.length cz, .int .i64 ez] 26) (.cells #[.bool sv, .slice Av xsv.length cv, .int .i64 ev] 26)
  rw [← hW]
  have L1 := ls L0 hb
  have Gx := gl0 L0.out
  have Gy := gl1 L0.out
  have Nxy : w.heap.size < w.heap.size + 1 := by omega
  have Gz := gl2 L0.out
  have Nxz : w.heap.size < w.heap.size + 1 + 1 := by omega
  have Nyz : w.heap.size + 1 < w.heap.size + 1 + 1 := by omega
  have Gv := gl3 L0.out
  have Nxv : w.heap.size < w.heap.size + 1 + 1 + 1 := by omega
  have Nyv : w.heap.size + 1 < w.heap.size + 1 + 1 + 1 := by omega
  have Nzv : w.heap.size + 1 + 1 < w.heap.size + 1 + 1 + 1 := by omega
  clear hW hb
  refine (iexamples_any _ (t32_live HT.out L1.out)).mono ?_
  rintro e w2 ⟨rfl, hb⟩
  have L2 := ls L1 hb
  have Rx_2 := co Rx_1 hb
  have Ry_2 := co Ry_1 hb
  have Rz_2 := co Rz_1 hb
  have Rv_2 := co Rv_1 hb
  clear hb 
  go_wp2_with fail
  refine (precI_any (q := Pp) Qp.out.1 Qp.out.2 HPp.out).mono ?_
  rintro e w3 ⟨rfl, rfl⟩
  go_wp2_with fail
  refine (inew_ok Pp _ (by have := PCp.out; unfold Pc at this; omega) (by have := PCp.out; unfold Pc at this; omega)).mono ?_
  rintro e w4 ⟨rfl, hw0⟩
  subst hw0
  obtain ⟨w5, hW, hb, Rk_5⟩ := new1 w2 (.cells #[.int .i64 0, .int .i64 Pp] 45)
  rw [← hW]
  have L5 := ls L2 hb
  have Rx_5 := co Rx_2 hb
  have Ry_5 := co Ry_2 hb
  have Rz_5 := co Rz_2 hb
  have Rv_5 := co Rv_2 hb
  have Gk := gl0 L2.out
  have Nxk := nl0 Rx_2.out
  have Nyk := nl0 Ry_2.out
  have Nzk := nl0 Rz_2.out
  have Nvk := nl0 Rv_2.out
  clear hW hb
  obtain ⟨fx0, zx0, fx1, zx1, fx2, zx2, xx⟩ := ly3 Rx_5.out
  obtain ⟨fy0, zy0, fy1, zy1, fy2, zy2, xy⟩ := ly3 Ry_5.out
  go_wp2_with fail
  refine (span_any (L5.out.get (A := Ax) (c := cx) (xs := xsx) (by simp)) LXx.out Ex.out.1 Ex.out.2 (L5.out.get (A := Ay) (c := cy) (xs := xsy) (by simp)) LXy.out Ey.out.1 Ey.out.2 (t32_live HT.out L5.out) HQx.out HQy.out Ha.out).mono ?_
  rintro e w6 ⟨A6, c6, B6, d6, rfl, hd, he, hb⟩
  have L6 := la2 L5 hb hd he
  clear fx0 zx0 fx1 zx1 fx2 zx2 xx fy0 zy0 fy1 zy1 fy2 zy2 xy
  have Rx_6 := co Rx_5 hb
  have Ry_6 := co Ry_5 hb
  have Rz_6 := co Rz_5 hb
  have Rv_6 := co Rv_5 hb
  have Rk_6 := co Rk_5 hb
  clear hb hd he
  obtain ⟨fz0, zz0, fz1, zz1, fz2, zz2, xz⟩ := ly3 Rz_6.out
  obtain ⟨fv0, zv0, fv1, zv1, fv2, zv2, xv⟩ := ly3 Rv_6.out
  go_wp2_with fail
  obtain ⟨w7, hW, hb, Rba_7⟩ := new1 w6 (.cells #[.bool (decide (a.lo.1 < 0)), .slice A6 (digs a.lo.1.natAbs).length c6, .int .i64 a.lo.2, .bool (decide (a.hi.1 < 0)), .slice B6 (digs a.hi.1.natAbs).length d6, .int .i64 a.hi.2] 34)
  rw [← hW]
  have L7 := ls L6 hb
  have Rx_7 := co Rx_6 hb
  have Ry_7 := co Ry_6 hb
  have Rz_7 := co Rz_6 hb
  have Rv_7 := co Rv_6 hb
  have Rk_7 := co Rk_6 hb
  have Gba := gl0 L6.out
  have Nxba := nl0 Rx_6.out
  have Nyba := nl0 Ry_6.out
  have Nzba := nl0 Rz_6.out
  have Nvba := nl0 Rv_6.out
  have Nkba := nl0 Rk_6.out
  clear hW hb
  clear fz0 zz0 fz1 zz1 fz2 zz2 xz fv0 zv0 fv1 zv1 fv2 zv2 xv
  refine (span_any (L7.out.get (A := Az) (c := cz) (xs := xsz) (by simp)) LXz.out Ez.out.1 Ez.out.2 (L7.out.get (A := Av) (c := cv) (xs := xsv) (by simp)) LXv.out Ev.out.1 Ev.out.2 (t32_live HT.out L7.out) HQz.out HQv.out Hb.out).mono ?_
  rintro e w8 ⟨A8, c8, B8, d8, rfl, hd, he, hb⟩
  have L8 := la2 L7 hb hd he
  have Rx_8 := co Rx_7 hb
  have Ry_8 := co Ry_7 hb
  have Rz_8 := co Rz_7 hb
  have Rv_8 := co Rv_7 hb
  have Rk_8 := co Rk_7 hb
  have Rba_8 := co Rba_7 hb
  clear hb hd he
  obtain ⟨fba0, zba0, fba1, zba1, fba2, zba2, fba3, zba3, fba4, zba4, fba5, zba5, xba⟩ := ly6 Rba_8.out
  go_wp2_with fail
  obtain ⟨w9, hW, hb, Rbb_9⟩ := new1 w8 (.cells #[.bool (decide (b.lo.1 < 0)), .slice A8 (digs b.lo.1.natAbs).length c8, .int .i64 b.lo.2, .bool (decide (b.hi.1 < 0)), .slice B8 (digs b.hi.1.natAbs).length d8, .int .i64 b.hi.2] 34)
  rw [← hW]
  have L9 := ls L8 hb
  have Rx_9 := co Rx_8 hb
  have Ry_9 := co Ry_8 hb
  have Rz_9 := co Rz_8 hb
  have Rv_9 := co Rv_8 hb
  have Rk_9 := co Rk_8 hb
  have Rba_9 := co Rba_8 hb
  have Gbb := gl0 L8.out
  have Nxbb := nl0 Rx_8.out
  have Nybb := nl0 Ry_8.out
  have Nzbb := nl0 Rz_8.out
  have Nvbb := nl0 Rv_8.out
  have Nkbb := nl0 Rk_8.out
  have Nbabb := nl0 Rba_8.out
  clear hW hb
  clear fba0 zba0 fba1 zba1 fba2 zba2 fba3 zba3 fba4 zba4 fba5 zba5 xba
  refine (inside_any (L9.out.get (A := A6) (c := c6) (xs := digs a.lo.1.natAbs) (by simp)) (L9.out.get (A := B6) (c := d6) (xs := digs a.hi.1.natAbs) (by simp)) Oa.out (t32_live HT.out L9.out) Qhow.out.1 Qhow.out.2 Hm.out).mono ?_
  rintro e w10 ⟨A10, c10, rfl, hd, hb⟩
  have L10 := la L9 hb hd
  have Rx_10 := co Rx_9 hb
  have Ry_10 := co Ry_9 hb
  have Rz_10 := co Rz_9 hb
  have Rv_10 := co Rv_9 hb
  have Rk_10 := co Rk_9 hb
  have Rba_10 := co Rba_9 hb
  have Rbb_10 := co Rbb_9 hb
  clear hb hd
  obtain ⟨fbb0, zbb0, fbb1, zbb1, fbb2, zbb2, fbb3, zbb3, fbb4, zbb4, fbb5, zbb5, xbb⟩ := ly6 Rbb_10.out
  go_wp2_with fail
  obtain ⟨w11, hW, hb, Rbm_11⟩ := new1 w10 (.cells #[.bool (decide (m.1 < 0)), .slice A10 (digs m.1.natAbs).length c10, .int .i64 m.2] 26)
  rw [← hW]
  have L11 := ls L10 hb
  have Rx_11 := co Rx_10 hb
  have Ry_11 := co Ry_10 hb
  have Rz_11 := co Rz_10 hb
  have Rv_11 := co Rv_10 hb
  have Rk_11 := co Rk_10 hb
  have Rba_11 := co Rba_10 hb
  have Rbb_11 := co Rbb_10 hb
  have Gbm := gl0 L10.out
  have Nxbm := nl0 Rx_10.out
  have Nybm := nl0 Ry_10.out
  have Nzbm := nl0 Rz_10.out
  have Nvbm := nl0 Rv_10.out
  have Nkbm := nl0 Rk_10.out
  have Nbabm := nl0 Rba_10.out
  have Nbbbm := nl0 Rbb_10.out
  clear hW hb
  clear fbb0 zbb0 fbb1 zbb1 fbb2 zbb2 fbb3 zbb3 fbb4 zbb4 fbb5 zbb5 xbb
  refine (inside_any (L11.out.get (A := A8) (c := c8) (xs := digs b.lo.1.natAbs) (by simp)) (L11.out.get (A := B8) (c := d8) (xs := digs b.hi.1.natAbs) (by simp)) Ob.out (t32_live HT.out L11.out) Qother.out.1 Qother.out.2 Hn.out).mono ?_
  rintro e w12 ⟨A12, c12, rfl, hd, hb⟩
  have L12 := la L11 hb hd
  have Rx_12 := co Rx_11 hb
  have Ry_12 := co Ry_11 hb
  have Rz_12 := co Rz_11 hb
  have Rv_12 := co Rv_11 hb
  have Rk_12 := co Rk_11 hb
  have Rba_12 := co Rba_11 hb
  have Rbb_12 := co Rbb_11 hb
  have Rbm_12 := co Rbm_11 hb
  clear hb hd
  obtain ⟨fbm0, zbm0, fbm1, zbm1, fbm2, zbm2, xbm⟩ := ly3 Rbm_12.out
  go_wp2_with fail
  obtain ⟨w13, hW, hb, Rbn_13⟩ := new1 w12 (.cells #[.bool (decide (n.1 < 0)), .slice A12 (digs n.1.natAbs).length c12, .int .i64 n.2] 26)
  rw [← hW]
  have L13 := ls L12 hb
  have Rx_13 := co Rx_12 hb
  have Ry_13 := co Ry_12 hb
  have Rz_13 := co Rz_12 hb
  have Rv_13 := co Rv_12 hb
  have Rk_13 := co Rk_12 hb
  have Rba_13 := co Rba_12 hb
  have Rbb_13 := co Rbb_12 hb
  have Rbm_13 := co Rbm_12 hb
  have Gbn := gl0 L12.out
  have Nxbn := nl0 Rx_12.out
  have Nybn := nl0 Ry_12.out
  have Nzbn := nl0 Rz_12.out
  have Nvbn := nl0 Rv_12.out
  have Nkbn := nl0 Rk_12.out
  have Nbabn := nl0 Rba_12.out
  have Nbbbn := nl0 Rbb_12.out
  have Nbmbn := nl0 Rbm_12.out
  clear hW hb
  clear fbm0 zbm0 fbm1 zbm1 fbm2 zbm2 xbm
  refine (qadd (L13.out.get (A := A10) (c := c10) (xs := digs m.1.natAbs) (by simp)) (L13.out.get (A := A12) (c := c12) (xs := digs n.1.natAbs) (by simp)) Om.out On.out (t32_live HT.out L13.out) Hs.out Os.out).mono ?_
  rintro e w14 ⟨A14, c14, rfl, hd, hb⟩
  have L14 := la L13 hb hd
  have Rx_14 := co Rx_13 hb
  have Ry_14 := co Ry_13 hb
  have Rz_14 := co Rz_13 hb
  have Rv_14 := co Rv_13 hb
  have Rk_14 := co Rk_13 hb
  have Rba_14 := co Rba_13 hb
  have Rbb_14 := co Rbb_13 hb
  have Rbm_14 := co Rbm_13 hb
  have Rbn_14 := co Rbn_13 hb
  clear hb hd
  obtain ⟨fbm0, zbm0, fbm1, zbm1, fbm2, zbm2, xbm⟩ := ly3 Rbm_14.out
  obtain ⟨fbn0, zbn0, fbn1, zbn1, fbn2, zbn2, xbn⟩ := ly3 Rbn_14.out
  go_wp2_with fail
  obtain ⟨w15, hW, hb, Rbs_15⟩ := new1 w14 (.cells #[.bool (decide (s.1 < 0)), .slice A14 (digs s.1.natAbs).length c14, .int .i64 s.2] 26)
  rw [← hW]
  have L15 := ls L14 hb
  have Rx_15 := co Rx_14 hb
  have Ry_15 := co Ry_14 hb
  have Rz_15 := co Rz_14 hb
  have Rv_15 := co Rv_14 hb
  have Rk_15 := co Rk_14 hb
  have Rba_15 := co Rba_14 hb
  have Rbb_15 := co Rbb_14 hb
  have Rbm_15 := co Rbm_14 hb
  have Rbn_15 := co Rbn_14 hb
  have Gbs := gl0 L14.out
  have Nxbs := nl0 Rx_14.out
  have Nybs := nl0 Ry_14.out
  have Nzbs := nl0 Rz_14.out
  have Nvbs := nl0 Rv_14.out
  have Nkbs := nl0 Rk_14.out
  have Nbabs := nl0 Rba_14.out
  have Nbbbs := nl0 Rbb_14.out
  have Nbmbs := nl0 Rbm_14.out
  have Nbnbs := nl0 Rbn_14.out
  clear hW hb
  clear fbm0 zbm0 fbm1 zbm1 fbm2 zbm2 xbm fbn0 zbn0 fbn1 zbn1 fbn2 zbn2 xbn
  refine (qsub (L15.out.get (A := A10) (c := c10) (xs := digs m.1.natAbs) (by simp)) (L15.out.get (A := A12) (c := c12) (xs := digs n.1.natAbs) (by simp)) Om.out On.out (t32_live HT.out L15.out) Hd.out Od.out).mono ?_
  rintro e w16 ⟨A16, c16, rfl, hd, hb⟩
  have L16 := la L15 hb hd
  have Rx_16 := co Rx_15 hb
  have Ry_16 := co Ry_15 hb
  have Rz_16 := co Rz_15 hb
  have Rv_16 := co Rv_15 hb
  have Rk_16 := co Rk_15 hb
  have Rba_16 := co Rba_15 hb
  have Rbb_16 := co Rbb_15 hb
  have Rbm_16 := co Rbm_15 hb
  have Rbn_16 := co Rbn_15 hb
  have Rbs_16 := co Rbs_15 hb
  clear hb hd
  obtain ⟨fbm0, zbm0, fbm1, zbm1, fbm2, zbm2, xbm⟩ := ly3 Rbm_16.out
  obtain ⟨fbn0, zbn0, fbn1, zbn1, fbn2, zbn2, xbn⟩ := ly3 Rbn_16.out
  go_wp2_with fail
  obtain ⟨w17, hW, hb, Rbd_17⟩ := new1 w16 (.cells #[.bool (decide (d.1 < 0)), .slice A16 (digs d.1.natAbs).length c16, .int .i64 d.2] 26)
  rw [← hW]
  have L17 := ls L16 hb
  have Rx_17 := co Rx_16 hb
  have Ry_17 := co Ry_16 hb
  have Rz_17 := co Rz_16 hb
  have Rv_17 := co Rv_16 hb
  have Rk_17 := co Rk_16 hb
  have Rba_17 := co Rba_16 hb
  have Rbb_17 := co Rbb_16 hb
  have Rbm_17 := co Rbm_16 hb
  have Rbn_17 := co Rbn_16 hb
  have Rbs_17 := co Rbs_16 hb
  have Gbd := gl0 L16.out
  have Nxbd := nl0 Rx_16.out
  have Nybd := nl0 Ry_16.out
  have Nzbd := nl0 Rz_16.out
  have Nvbd := nl0 Rv_16.out
  have Nkbd := nl0 Rk_16.out
  have Nbabd := nl0 Rba_16.out
  have Nbbbd := nl0 Rbb_16.out
  have Nbmbd := nl0 Rbm_16.out
  have Nbnbd := nl0 Rbn_16.out
  have Nbsbd := nl0 Rbs_16.out
  clear hW hb
  clear fbm0 zbm0 fbm1 zbm1 fbm2 zbm2 xbm fbn0 zbn0 fbn1 zbn1 fbn2 zbn2 xbn
  refine (qmul (L17.out.get (A := A10) (c := c10) (xs := digs m.1.natAbs) (by simp)) (L17.out.get (A := A12) (c := c12) (xs := digs n.1.natAbs) (by simp)) Om.out On.out (t32_live HT.out L17.out) Ht.out Ot.out).mono ?_
  rintro e w18 ⟨A18, c18, rfl, hd, hb⟩
  have L18 := la L17 hb hd
  have Rx_18 := co Rx_17 hb
  have Ry_18 := co Ry_17 hb
  have Rz_18 := co Rz_17 hb
  have Rv_18 := co Rv_17 hb
  have Rk_18 := co Rk_17 hb
  have Rba_18 := co Rba_17 hb
  have Rbb_18 := co Rbb_17 hb
  have Rbm_18 := co Rbm_17 hb
  have Rbn_18 := co Rbn_17 hb
  have Rbs_18 := co Rbs_17 hb
  have Rbd_18 := co Rbd_17 hb
  clear hb hd
  go_upto_region 14 with fail
  obtain ⟨w19, hW, hb, Rbt_19⟩ := new1 w18 (.cells #[.bool (decide (t.1 < 0)), .slice A18 (digs t.1.natAbs).length c18, .int .i64 t.2] 26)
  rw [← hW]
  have L19 := ls L18 hb
  have Rx_19 := co Rx_18 hb
  have Ry_19 := co Ry_18 hb
  have Rz_19 := co Rz_18 hb
  have Rv_19 := co Rv_18 hb
  have Rk_19 := co Rk_18 hb
  have Rba_19 := co Rba_18 hb
  have Rbb_19 := co Rbb_18 hb
  have Rbm_19 := co Rbm_18 hb
  have Rbn_19 := co Rbn_18 hb
  have Rbs_19 := co Rbs_18 hb
  have Rbd_19 := co Rbd_18 hb
  have Gbt := gl0 L18.out
  have Nxbt := nl0 Rx_18.out
  have Nybt := nl0 Ry_18.out
  have Nzbt := nl0 Rz_18.out
  have Nvbt := nl0 Rv_18.out
  have Nkbt := nl0 Rk_18.out
  have Nbabt := nl0 Rba_18.out
  have Nbbbt := nl0 Rbb_18.out
  have Nbmbt := nl0 Rbm_18.out
  have Nbnbt := nl0 Rbn_18.out
  have Nbsbt := nl0 Rbs_18.out
  have Nbdbt := nl0 Rbd_18.out
  clear hW hb
  obtain ⟨fba0, zba0, fba1, zba1, fba2, zba2, fba3, zba3, fba4, zba4, fba5, zba5, xba⟩ := ly6 Rba_19.out
  obtain ⟨fbb0, zbb0, fbb1, zbb1, fbb2, zbb2, fbb3, zbb3, fbb4, zbb4, fbb5, zbb5, xbb⟩ := ly6 Rbb_19.out
  obtain ⟨fbs0, zbs0, fbs1, zbs1, fbs2, zbs2, xbs⟩ := ly3 Rbs_19.out
  have KD := Lib.hid (bd0 w19)
  have LD := ls L19 KD.out
  go_region_held3 (fun w' => ∀ b o, b < w19.heap.size → w'.cell? ⟨b, o, none⟩ = w19.cell? ⟨b, o, none⟩)
    (first | with_reducible exact (bcell KD.out).1 | with_reducible exact (bcell K21.out).1 | with_reducible exact (bcell K22.out).1)
    (first
      | (go_at_call 18; (with_reducible refine (cadd (LD.out.get (A := A6) (c := c6) (xs := digs a.lo.1.natAbs) (by simp)) (LD.out.get (A := B6) (c := d6) (xs := digs a.hi.1.natAbs) (by simp)) Oa.out (LD.out.get (A := A8) (c := c8) (xs := digs b.lo.1.natAbs) (by simp)) (LD.out.get (A := B8) (c := d8) (xs := digs b.hi.1.natAbs) (by simp)) Ob.out PCp.out (t32_live HT.out LD.out) (cells_of Rk_19.out KD.out) Hr.out).mono ?_); rintro e w21 ⟨A21, c21, B21, d21, rfl, hd, he, hb⟩; (have K21 := bt KD hb); (have L21 := la2 LD hb hd he); clear hb hd he)
      | (go_at_call 17; (with_reducible refine (chas (L21.out.get (A := A21) (c := c21) (xs := digs r.lo.1.natAbs) (by simp)) (L21.out.get (A := B21) (c := d21) (xs := digs r.hi.1.natAbs) (by simp)) Or.out (L21.out.get (A := A14) (c := c14) (xs := digs s.1.natAbs) (by simp)) Os.out W1.out).mono ?_); rintro e w22 ⟨rfl, hb⟩; (have K22 := bt K21 hb); (have L22 := Lib.hid (L21.out.step hb)); clear hb ))
  rename_i hHeld
  clear hHeld
  clear fba0 zba0 fba1 zba1 fba2 zba2 fba3 zba3 fba4 zba4 fba5 zba5 xba fbb0 zbb0 fbb1 zbb1 fbb2 zbb2 fbb3 zbb3 fbb4 zbb4 fbb5 zbb5 xbb fbs0 zbs0 fbs1 zbs1 fbs2 zbs2 xbs
  have Rx_22 := co Rx_19 K22.out
  have Ry_22 := co Ry_19 K22.out
  have Rz_22 := co Rz_19 K22.out
  have Rv_22 := co Rv_19 K22.out
  have Rk_22 := co Rk_19 K22.out
  have Rba_22 := co Rba_19 K22.out
  have Rbb_22 := co Rbb_19 K22.out
  have Rbm_22 := co Rbm_19 K22.out
  have Rbn_22 := co Rbn_19 K22.out
  have Rbs_22 := co Rbs_19 K22.out
  have Rbd_22 := co Rbd_19 K22.out
  have Rbt_22 := co Rbt_19 K22.out
  clear KD LD
  go_upto_region 15 with fail
  obtain ⟨fba0, zba0, fba1, zba1, fba2, zba2, fba3, zba3, fba4, zba4, fba5, zba5, xba⟩ := ly6 Rba_22.out
  obtain ⟨fbb0, zbb0, fbb1, zbb1, fbb2, zbb2, fbb3, zbb3, fbb4, zbb4, fbb5, zbb5, xbb⟩ := ly6 Rbb_22.out
  obtain ⟨fbd0, zbd0, fbd1, zbd1, fbd2, zbd2, xbd⟩ := ly3 Rbd_22.out
  have KD := Lib.hid (bd0 w22)
  have LD := ls L22 KD.out
  go_region_held3 (fun w' => ∀ b o, b < w22.heap.size → w'.cell? ⟨b, o, none⟩ = w22.cell? ⟨b, o, none⟩)
    (first | with_reducible exact (bcell KD.out).1 | with_reducible exact (bcell K24.out).1 | with_reducible exact (bcell K25.out).1)
    (first
      | (go_at_call 19; (with_reducible refine (csub (LD.out.get (A := A6) (c := c6) (xs := digs a.lo.1.natAbs) (by simp)) (LD.out.get (A := B6) (c := d6) (xs := digs a.hi.1.natAbs) (by simp)) Oa.out (LD.out.get (A := A8) (c := c8) (xs := digs b.lo.1.natAbs) (by simp)) (LD.out.get (A := B8) (c := d8) (xs := digs b.hi.1.natAbs) (by simp)) Ob.out PCp.out (t32_live HT.out LD.out) (cells_of Rk_22.out KD.out) Hu.out).mono ?_); rintro e w24 ⟨A24, c24, B24, d24, rfl, hd, he, hb⟩; (have K24 := bt KD hb); (have L24 := la2 LD hb hd he); clear hb hd he)
      | (go_at_call 17; (with_reducible refine (chas (L24.out.get (A := A24) (c := c24) (xs := digs u.lo.1.natAbs) (by simp)) (L24.out.get (A := B24) (c := d24) (xs := digs u.hi.1.natAbs) (by simp)) Ou.out (L24.out.get (A := A16) (c := c16) (xs := digs d.1.natAbs) (by simp)) Od.out W2.out).mono ?_); rintro e w25 ⟨rfl, hb⟩; (have K25 := bt K24 hb); (have L25 := Lib.hid (L24.out.step hb)); clear hb ))
  rename_i hHeld
  clear hHeld
  clear fba0 zba0 fba1 zba1 fba2 zba2 fba3 zba3 fba4 zba4 fba5 zba5 xba fbb0 zbb0 fbb1 zbb1 fbb2 zbb2 fbb3 zbb3 fbb4 zbb4 fbb5 zbb5 xbb fbd0 zbd0 fbd1 zbd1 fbd2 zbd2 xbd
  have Rx_25 := co Rx_22 K25.out
  have Ry_25 := co Ry_22 K25.out
  have Rz_25 := co Rz_22 K25.out
  have Rv_25 := co Rv_22 K25.out
  have Rk_25 := co Rk_22 K25.out
  have Rba_25 := co Rba_22 K25.out
  have Rbb_25 := co Rbb_22 K25.out
  have Rbm_25 := co Rbm_22 K25.out
  have Rbn_25 := co Rbn_22 K25.out
  have Rbs_25 := co Rbs_22 K25.out
  have Rbd_25 := co Rbd_22 K25.out
  have Rbt_25 := co Rbt_22 K25.out
  clear KD LD
  go_upto_region 16 with fail
  obtain ⟨fba0, zba0, fba1, zba1, fba2, zba2, fba3, zba3, fba4, zba4, fba5, zba5, xba⟩ := ly6 Rba_25.out
  obtain ⟨fbb0, zbb0, fbb1, zbb1, fbb2, zbb2, fbb3, zbb3, fbb4, zbb4, fbb5, zbb5, xbb⟩ := ly6 Rbb_25.out
  obtain ⟨fbt0, zbt0, fbt1, zbt1, fbt2, zbt2, xbt⟩ := ly3 Rbt_25.out
  have KD := Lib.hid (bd0 w25)
  have LD := ls L25 KD.out
  go_region_held3 (fun w' => ∀ b o, b < w25.heap.size → w'.cell? ⟨b, o, none⟩ = w25.cell? ⟨b, o, none⟩)
    (first | with_reducible exact (bcell KD.out).1 | with_reducible exact (bcell K27.out).1 | with_reducible exact (bcell K28.out).1)
    (first
      | (go_at_call 20; (with_reducible refine (cmul (LD.out.get (A := A6) (c := c6) (xs := digs a.lo.1.natAbs) (by simp)) (LD.out.get (A := B6) (c := d6) (xs := digs a.hi.1.natAbs) (by simp)) Oa.out (LD.out.get (A := A8) (c := c8) (xs := digs b.lo.1.natAbs) (by simp)) (LD.out.get (A := B8) (c := d8) (xs := digs b.hi.1.natAbs) (by simp)) Ob.out PCp.out (t32_live HT.out LD.out) (cells_of Rk_25.out KD.out) Hc.out).mono ?_); rintro e w27 ⟨A27, c27, B27, d27, rfl, hd, he, hb⟩; (have K27 := bt KD hb); (have L27 := la2 LD hb hd he); clear hb hd he)
      | (go_at_call 17; (with_reducible refine (chas (L27.out.get (A := A27) (c := c27) (xs := digs c.lo.1.natAbs) (by simp)) (L27.out.get (A := B27) (c := d27) (xs := digs c.hi.1.natAbs) (by simp)) Oc.out (L27.out.get (A := A18) (c := c18) (xs := digs t.1.natAbs) (by simp)) Ot.out W3.out).mono ?_); rintro e w28 ⟨rfl, hb⟩; (have K28 := bt K27 hb); (have L28 := Lib.hid (L27.out.step hb)); clear hb ))
  rename_i hHeld
  clear hHeld
  clear fba0 zba0 fba1 zba1 fba2 zba2 fba3 zba3 fba4 zba4 fba5 zba5 xba fbb0 zbb0 fbb1 zbb1 fbb2 zbb2 fbb3 zbb3 fbb4 zbb4 fbb5 zbb5 xbb fbt0 zbt0 fbt1 zbt1 fbt2 zbt2 xbt
  have Rx_28 := co Rx_25 K28.out
  have Ry_28 := co Ry_25 K28.out
  have Rz_28 := co Rz_25 K28.out
  have Rv_28 := co Rv_25 K28.out
  have Rk_28 := co Rk_25 K28.out
  have Rba_28 := co Rba_25 K28.out
  have Rbb_28 := co Rbb_25 K28.out
  have Rbm_28 := co Rbm_25 K28.out
  have Rbn_28 := co Rbn_25 K28.out
  have Rbs_28 := co Rbs_25 K28.out
  have Rbd_28 := co Rbd_25 K28.out
  have Rbt_28 := co Rbt_25 K28.out
  clear KD LD
  obtain ⟨fk0, zk0, fk1, zk1, xk⟩ := ly2 Rk_28.out
  go_wp2_with fail
  refine (ierr_any w2.heap.size 0 _ (row_c Rk_28.out (i := 0) rfl)).mono ?_
  rintro e w29 ⟨rfl, rfl⟩
  clear fk0 zk0 fk1 zk1 xk
  go_wp2
  go_ret
  exact ⟨rfl, L28.out.1⟩
end Go.Proofs.YtijodbjdajddoaaGreatDoor
end

section
/-
  IvHolds, FOR EVERY ARGUMENT: the law returns true, and each argument reads behind the call as it read ahead of it. THE TIED CARD.
-/
namespace Go.Proofs.YtijodbjdajddoaaGreatDoor.ivHolds
open Go Go.ChangeShapes Go.WideShapes Go.ChangeAt Go.RowKit
set_option linter.unusedVariables false
/-- The door's own heap meets the condition. -/
theorem door_met (os : Os) (args : Array Value) : laidMetH Tryz.prog Rows.ivHoldsRow.laid ((World.doorLaid Tryz.prog 400 os).forCall (fun _ _ => 0) ⟨#[], args, []⟩).memory :=
  laidMetH_of_parts3 (fuel := 8) (laidMet_of_run' 8 (by kernel_rfl) (by kernel_rfl)) (by kernel_rfl) (by kernel_rfl)
set_option maxRecDepth 100000 in
theorem lifted (os : Os) (started : os.Started) (H : Type) (enc : TypeId × Value → H) :
    ReturnsInHanded {} Tryz.checked os 3 .any (fun w args => (Rows.ivHoldsSpec.pre enc Tryz.prog Tryz.f3 [] false w args ∧ laidMetH Tryz.prog Rows.ivHoldsRow.laid w) ∧ sizedMet enc Tryz.prog Tryz.f3 (OpenSpec.ofChange Rows.ivHoldsSpec) false w args)
      (Rows.ivHoldsSpec.post enc Tryz.prog Tryz.f3 false true false false) := by
  refine returnsInHanded_of_change_and (C := Tryz.checked) (X := fun w _ => laidMetH Tryz.prog Rows.ivHoldsRow.laid w) (fun _ _ _ hh h => h.of_heap hh) own started (by kernel_rfl) Tryz.func3
    (ChangeSpec.witness_shaped (enc := enc) (C := Tryz.checked) (os := os) (X := fun w _ => laidMetH Tryz.prog Rows.ivHoldsRow.laid w) false (World.doorLaid Tryz.prog 400 os) #[.agg #[.bool false, .slice none 0 0, .int .i64 0], .agg #[.bool false, .slice none 0 0, .int .i64 0], .agg #[.bool false, .slice none 0 0, .int .i64 0], .agg #[.bool false, .slice none 0 0, .int .i64 0], .int .i64 0, .int .i64 0, .int .i64 0] 8 rfl (World.shaped_of_RefB (by kernel_rfl) (by kernel_rfl)) (by kernel_rfl) (by kernel_rfl) (by kernel_rfl) (door_met os _)) ?_
  intro W base args ds gs before hval0 hW _ _ hL _
  rw [MakeChecks.laidMetH_plain _ _ _ (by kernel_rfl)] at hL
  have htab := t32_laid hL
  clear hL
  have hval : ∀ (j : Nat) t v, Tryz.f3.params[j]? = some t → args[j]? = some v → Value.okWide Tryz.prog W .any base t v := hval0
  have hW' := hW
  obtain ⟨p, q, hA0, hV, rfl, hfz, hnd⟩ := hW
  have hA : DataW.TrodAll enc Tryz.prog W 0 (fun _ => true) true Tryz.f3.params.toList args.toList ds p := hA0
  rw [Tryz.params3] at hA hval
  obtain ⟨v0, vs0, d0, ds0, p0, q0, hargs, rfl, rfl, h0, r0⟩ := trodAll_cons hA
  obtain ⟨v1, vs1, d1, ds1, p1, q1, rfl, rfl, rfl, h1, r1⟩ := trodAll_cons r0
  obtain ⟨v2, vs2, d2, ds2, p2, q2, rfl, rfl, rfl, h2, r2⟩ := trodAll_cons r1
  obtain ⟨v3, vs3, d3, ds3, p3, q3, rfl, rfl, rfl, h3, r3⟩ := trodAll_cons r2
  obtain ⟨v4, vs4, d4, ds4, p4, q4, rfl, rfl, rfl, h4, r4⟩ := trodAll_cons r3
  obtain ⟨v5, vs5, d5, ds5, p5, q5, rfl, rfl, rfl, h5, r5⟩ := trodAll_cons r4
  obtain ⟨v6, vs6, d6, ds6, p6, q6, rfl, rfl, rfl, h6, r6⟩ := trodAll_cons r5
  obtain ⟨rfl, rfl, rfl⟩ := trodAll_nil r6
  obtain rfl : args = #[v0, v1, v2, v3, v4, v5, v6] := by cases args; simp_all
  obtain ⟨rfl, rfl⟩ := trodVars_none hV
  obtain ⟨s0, A0, c0, xs0, x0, rfl, g0, l0, x00, x01⟩ := open_d (hval 0 _ _ rfl rfl) h0
  obtain ⟨s1, A1, c1, xs1, x1, rfl, g1, l1, x10, x11⟩ := open_d (hval 1 _ _ rfl rfl) h1
  obtain ⟨s2, A2, c2, xs2, x2, rfl, g2, l2, x20, x21⟩ := open_d (hval 2 _ _ rfl rfl) h2
  obtain ⟨s3, A3, c3, xs3, x3, rfl, g3, l3, x30, x31⟩ := open_d (hval 3 _ _ rfl rfl) h3
  obtain ⟨a4, rfl, e4, e4', g4⟩ := open_int Tryz.underlying3 (hval 4 _ _ rfl rfl) h4
  obtain ⟨a5, rfl, e5, e5', g5⟩ := open_int Tryz.underlying3 (hval 5 _ _ rfl rfl) h5
  obtain ⟨a6, rfl, e6, e6', g6⟩ := open_int Tryz.underlying3 (hval 6 _ _ rfl rfl) h6
  clear hA0
  simp only [List.append_nil] at hW'
  refine (ivHolds_any A0 c0 s0 xs0 x0 A1 c1 s1 xs1 x1 A2 c2 s2 xs2 x2 A3 c3 s3 xs3 x3 a4 a5 a6 W g0 l0 x00 x01 g1 l1 x10 x11 g2 l2 x20 x21 g3 l3 x30 x31 (i64_lo g4) (i64_hi g4) (i64_lo g5) (i64_hi g5) (i64_lo g6) (i64_hi g6) htab).mono fun e W' ⟨he, hb⟩ => ?_
  subst he
  have hlt := hW'.lt
  refine ⟨_, rfl, law_post (tb := 4) hW' hb rfl rfl Tryz.underlying4 rfl rfl fun sp hsp => ?_⟩
  have hr := trodAll_cons_mk (again (by kernel_rfl) (of_decide_eq_true (by kernel_rfl)) h0 hb (fun x hx => hlt x (by simp [hx])) sp (fun x hx => hsp x (by simp [hx]))) (trodAll_cons_mk (again (by kernel_rfl) (of_decide_eq_true (by kernel_rfl)) h1 hb (fun x hx => hlt x (by simp [hx])) sp (fun x hx => hsp x (by simp [hx]))) (trodAll_cons_mk (again (by kernel_rfl) (of_decide_eq_true (by kernel_rfl)) h2 hb (fun x hx => hlt x (by simp [hx])) sp (fun x hx => hsp x (by simp [hx]))) (trodAll_cons_mk (again (by kernel_rfl) (of_decide_eq_true (by kernel_rfl)) h3 hb (fun x hx => hlt x (by simp [hx])) sp (fun x hx => hsp x (by simp [hx]))) (trodAll_cons_mk (again (by kernel_rfl) (of_decide_eq_true (by kernel_rfl)) h4 hb (fun x hx => hlt x (by simp [hx])) sp (fun x hx => hsp x (by simp [hx]))) (trodAll_cons_mk (again (by kernel_rfl) (of_decide_eq_true (by kernel_rfl)) h5 hb (fun x hx => hlt x (by simp [hx])) sp (fun x hx => hsp x (by simp [hx]))) (trodAll_cons_mk (again (by kernel_rfl) (of_decide_eq_true (by kernel_rfl)) h6 hb (fun x hx => hlt x (by simp [hx])) sp (fun x hx => hsp x (by simp [hx]))) trodAll_mk0))))))
  simp only [List.append_nil] at hr
  exact hr
theorem row_holds : Rows.IvHoldsSaid :=
  OpenClaim.holds_of_wide 3 Tryz.f3 rfl rfl rfl rfl rfl rfl rfl ⟨rfl, rfl, rfl, rfl, rfl⟩ rfl rfl rfl rfl rfl (by kernel_rfl) Tryz.func3 (by kernel_rfl)
    (of_decide_eq_true (by kernel_rfl)) (by unfold Func.isWrapper; first | (rw [if_pos (by decide +kernel)]; kernel_rfl) | (rw [if_neg (by decide +kernel)]; exact ⟨rfl, rfl⟩))
    (fun os started H enc _ => lifted os started H enc)
/-- THE TIED CARD. -/
theorem proved : Rows.IvHoldsCardSaid :=
  Claim7.holds_tied_plain_at .later [] [.data] true (true, "ce2d7296bee61de3211586e1632cf2a6cfe767e426ec5d84453dd9d1173b67cd") false
    row_holds (fun _ h => by cases h) (by kernel_rfl) (fun _ h => by cases h) ivHolds_row_tie rfl ⟨rfl, rfl⟩ (by kernel_rfl) rfl
    (fun f fn hf hfn => by
      obtain rfl : f = 3 := Option.some.inj ((show Tryz.prog.funcNamed Rows.ivHoldsRow.func = some 3 by kernel_rfl).symm.trans hf) |>.symm
      obtain rfl : fn = Tryz.f3 := (Option.some.inj (Tryz.func3.symm.trans hfn)).symm
      exact ⟨by kernel_rfl, fun j t ht => by
        have hall : (Tryz.f3.params.toList.all fun u => !Tryz.prog.wantsStandIn u) = true := by kernel_rfl
        exact (show Tryz.prog.wantsStandIn t = false by simpa using List.all_eq_true.1 hall t (Array.mem_toList_iff.2 (Array.mem_of_getElem? ht)))⟩)
    (by kernel_rfl)
end Go.Proofs.YtijodbjdajddoaaGreatDoor.ivHolds
end
