import Derived.Test.YtijodbjdajddoaaGreatDoorMB6
import Derived.Test.YtijodbjdajddoaaGreatDoorTie
import Derived.Test.YtijodbjdajddoaaGreatDoorCards
import Derived.SevenTiedAt
import Derived.OpenShut
import Derived.ChangeMaps5
section
/-
  IvScales.
-/
namespace Go.Proofs.YtijodbjdajddoaaGreatDoor
open Go.RowKit
set_option linter.unusedSimpArgs false
set_option linter.unusedVariables false
theorem scale_back {s r t : St} {j k : Int} (os : So s) (h : ScaleR j s r) (h' : ScaleR k r t) (hk : -j = k) : t = s := by
  subst hk
  have key : ∀ q : Rat, q * 2 ^ j * 2 ^ (-j) = q := fun q => by
    rw [Rat.mul_assoc, ← zpow_add2, show j + -j = 0 by omega]
    exact Rat.mul_one q
  have e1 : t.lo = s.lo := qn_inj h'.1.1 os.1.1 (by rw [isq_v h'.1, isq_v h.1]; exact key _)
  have e2 : t.hi = s.hi := qn_inj h'.2.2.1.1 os.2.1.1 (by rw [isq_v h'.2.2.1, isq_v h.2.2.1]; exact key _)
  cases t; cases s; simp at e1 e2; rw [e1, e2]
theorem twin {p : Nat} {s r : St} (h : AddR p s (NegS s) r) : NegS r = r := by
  obtain ⟨a, b, ha, _, hb, _, hc, _, hd, _⟩ := h
  have e : qr b = -qr a := by
    rw [isq_v ha, isq_v hb]
    show qr s.hi + qr (negQ s.lo) = -(qr s.lo + qr (negQ s.hi))
    rw [qr_neg, qr_neg]; grind
  have e1 : negQ r.lo = r.hi := by
    have := rd_neg hc
    rw [← e] at this
    exact rd_uniq this hd
  unfold NegS
  rw [← e1, negQ_negQ]
  cases r; simp at e1 ⊢; exact e1
theorem zero_in {p : Nat} {s r : St} (os : So s) (h : AddR p s (NegS s) r) : Ins 0 r := by
  obtain ⟨a, b, ha, _, hb, _, hc, _, hd, _⟩ := h
  have h1 := rd_le hc
  have h2 := rd_ge hd
  rw [isq_v ha] at h1
  rw [isq_v hb] at h2
  have e1 : qr (NegS s).lo = -qr s.hi := qr_neg _
  have e2 : qr (NegS s).hi = -qr s.lo := qr_neg _
  rw [e1] at h1
  rw [e2] at h2
  have := os.2.2
  constructor <;> grind

set_option maxHeartbeats 8000000 in
set_option maxRecDepth 100000 in
theorem ivScales_n  (Ax : Option Addr) (cx : Nat) (sx : Bool) (xsx : List Nat) (ex : Int) (Ay : Option Addr) (cy : Nat) (sy : Bool) (xsy : List Nat) (ey : Int) (p : Int) (n : Int) (w : World)  (hx : Dg w Ax cx xsx) (lx : xsx.length ≤ 9223372036854775807) (ex0 : -9223372036854775808 ≤ ex) (ex1 : ex ≤ 9223372036854775807) (hy : Dg w Ay cy xsy) (ly : xsy.length ≤ 9223372036854775807) (ey0 : -9223372036854775808 ≤ ey) (ey1 : ey ≤ 9223372036854775807) (p0 : -9223372036854775808 ≤ p) (p1 : p ≤ 9223372036854775807) (n0 : -9223372036854775808 ≤ n) (n1 : n ≤ 9223372036854775807) (hT : T32 w) (hn : n < 0):
    Calls Tryz.prog 8 #[.agg #[.bool sx, .slice Ax xsx.length cx, .int .i64 ex], .agg #[.bool sy, .slice Ay xsy.length cy, .int .i64 ey], .int .i64 p, .int .i64 n] w fun e w' => e = .returned (.bool true) ∧ Below w.heap.size w w' := by
  obtain ⟨qx, hqx⟩ : ∃ q, tq sx xsx ex = q := ⟨_, rfl⟩
  have bdx : Qb (-90) 218 qx := hqx ▸ tq_bd hx.2.1
  have LXx := Lib.hid lx
  have Ex := Lib.hid (And.intro ex0 ex1)
  have HQx := Lib.hid hqx
  obtain ⟨qy, hqy⟩ : ∃ q, tq sy xsy ey = q := ⟨_, rfl⟩
  have bdy : Qb (-90) 218 qy := hqy ▸ tq_bd hy.2.1
  have LXy := Lib.hid ly
  have Ey := Lib.hid (And.intro ey0 ey1)
  have HQy := Lib.hid hqy
  obtain ⟨Pp, hPp⟩ : ∃ vv, precI p = vv := ⟨_, rfl⟩
  have hPbp := precI_bd p
  rw [hPp] at hPbp
  obtain ⟨kp, hkp⟩ : ∃ k : Nat, (k : Int) = Pp := ⟨Pp.toNat, by omega⟩
  have HPp := Lib.hid hPp
  have PCp := Lib.hid (show Pc kp Pp from ⟨hkp, by omega, by omega⟩)
  have Qp := Lib.hid (And.intro p0 p1)
  have hk2p : 1 ≤ kp := by omega
  have hk3p : kp ≤ 150 := by omega
  obtain ⟨a, ha⟩ : ∃ s, spanS qx qy = s := ⟨_, rfl⟩
  have sa_b : Sb (-90) 218 a := ha ▸ spanS_sb bdx bdy
  have Ha := Lib.hid ha
  have Oa := Lib.hid (sa_b.ok (by omega) (by omega))
  obtain ⟨j0, hj0⟩ : ∃ r, (-(n + 1)).tmod 401 = r := ⟨_, rfl⟩
  have hj2 := Int.tmod_eq_emod_of_nonneg (b := 401) (show 0 ≤ -(n + 1) by omega)
  rw [hj0] at hj2
  obtain ⟨j, hj⟩ : ∃ j, j0 - 200 = j := ⟨_, rfl⟩
  have jb0 : -200 ≤ j := by omega
  have jb1 : j ≤ 200 := by omega
  obtain ⟨i, hi⟩ : ∃ i, -j = i := ⟨_, rfl⟩
  have wj : IntKind.i64.wrap (j0 - 200) = j := by rw [IntWalk.i64_in _ (by omega)]; exact hj
  have wi : IntKind.i64.wrap (-j) = i := by rw [IntWalk.i64_in _ (by omega)]; exact hi
  have d0 : decide (n < 0) = true := by simp; omega
  obtain ⟨r, hr, br⟩ := scale_ex (n := j) sa_b (by omega) (by omega)
  obtain ⟨t, ht, bt⟩ := scale_ex (n := i) br (by omega) (by omega)
  obtain rfl := scale_back (sa_b.ok (by omega) (by omega)) hr ht hi
  obtain ⟨z, hz, bz, _, _⟩ := add_ex hk2p sa_b sa_b.neg (by omega) (by omega)
  have tz := twin hz
  have zi := zero_in (sa_b.ok (by omega) (by omega)) hz
  have Hr := Lib.hid hr
  have Ht := Lib.hid ht
  have Hz := Lib.hid hz
  have Or := Lib.hid (br.ok (by omega) (by omega))
  have Oz := Lib.hid (bz.ok (by omega) (by omega))
  have TZ := Lib.hid tz
  have ZI := Lib.hid (decide_eq_true zi)
  have HJ := Lib.hid hj0
  have WJ := Lib.hid wj
  have WI := Lib.hid wi
  have JB := Lib.hid (show -100000 ≤ j ∧ j ≤ 100000 by omega)
  have IB := Lib.hid (show -100000 ≤ i ∧ i ≤ 100000 by omega)
  have J0 := Lib.hid (show 0 ≤ j0 ∧ j0 ≤ 400 by omega)
  have D0 := Lib.hid d0
  have C0 := Lib.hid (cmpd_eq (rfl : qr t.lo = qr t.lo))
  have N0 := Lib.hid (And.intro n0 n1)
  have NN := Lib.hid hn
  have HT := Lib.hid hT
  clear hT
  have L0 := Lib.hid (((live_start w).add hx).add hy)
  clear hx lx ex0 ex1 hqx bdx hy ly ey0 ey1 hqy bdy p0 p1 hPp hPbp hkp n0 n1 hn ha sa_b hj0 hj2 hj jb0 jb1 hi wj wi d0 hr br ht bt hz bz tz zi hk2p hk3p
  go_enter Tryz.func8, Tryz.ntmps8
  go_wp2_with fail
  obtain ⟨v1, hW, hb, Rx_1, Ry_1⟩ := new2 w (.cells #[.bool sx, .slice Ax xsx.length cx, .int .i64 ex] 26) (.cells #[.bool sy, .slice Ay xsy.length cy, .int .i64 ey] 26)
  rw [← hW]
  have L1 := ls L0 hb
  have Gx := gl0 L0.out
  have Gy := gl1 L0.out
  have Nxy : w.heap.size < w.heap.size + 1 := by omega
  clear hW hb
  refine (iexamples_any _ (t32_live HT.out L1.out)).mono ?_
  rintro e w2 ⟨rfl, hb⟩
  have L2 := ls L1 hb
  have Rx_2 := co Rx_1 hb
  have Ry_2 := co Ry_1 hb
  clear hb 
  go_wp2_with fail
  refine (precI_any (q := Pp) Qp.out.1 Qp.out.2 HPp.out).mono ?_
  rintro e w3 ⟨rfl, rfl⟩
  go_wp2_with fail
  refine (inew_ok Pp _ (by have := PCp.out; unfold Pc at this; omega) (by have := PCp.out; unfold Pc at this; omega)).mono ?_
  rintro e w4 ⟨rfl, hw0⟩
  subst hw0
  obtain ⟨w5, hW, hb, Rk_5⟩ := new1 w2 (.cells #[.int .i64 0, .int .i64 Pp] 45)
  rw [← hW]
  have L5 := ls L2 hb
  have Rx_5 := co Rx_2 hb
  have Ry_5 := co Ry_2 hb
  have Gk := gl0 L2.out
  have Nxk := nl0 Rx_2.out
  have Nyk := nl0 Ry_2.out
  clear hW hb
  have hj := HJ.out
  have d0 := D0.out
  have wj := WJ.out
  have n0 := N0.out.1
  have n1 := N0.out.2
  have hn := NN.out
  obtain ⟨j00, j01⟩ := J0.out
  go_upto_region 10 with fail
  clear hj d0 wj n0 n1 hn
  obtain ⟨fx0, zx0, fx1, zx1, fx2, zx2, xx⟩ := ly3 Rx_5.out
  obtain ⟨fy0, zy0, fy1, zy1, fy2, zy2, xy⟩ := ly3 Ry_5.out
  go_wp2_with fail
  refine (span_any (L5.out.get (A := Ax) (c := cx) (xs := xsx) (by simp)) LXx.out Ex.out.1 Ex.out.2 (L5.out.get (A := Ay) (c := cy) (xs := xsy) (by simp)) LXy.out Ey.out.1 Ey.out.2 (t32_live HT.out L5.out) HQx.out HQy.out Ha.out).mono ?_
  rintro e w6 ⟨A6, c6, B6, d6, rfl, hd, he, hb⟩
  have L6 := la2 L5 hb hd he
  clear fx0 zx0 fx1 zx1 fx2 zx2 xx fy0 zy0 fy1 zy1 fy2 zy2 xy
  have Rx_6 := co Rx_5 hb
  have Ry_6 := co Ry_5 hb
  have Rk_6 := co Rk_5 hb
  clear hb hd he
  go_upto_region 11 with fail
  obtain ⟨w7, hW, hb, Rba_7⟩ := new1 w6 (.cells #[.bool (decide (t.lo.1 < 0)), .slice A6 (digs t.lo.1.natAbs).length c6, .int .i64 t.lo.2, .bool (decide (t.hi.1 < 0)), .slice B6 (digs t.hi.1.natAbs).length d6, .int .i64 t.hi.2] 34)
  rw [← hW]
  have L7 := ls L6 hb
  have Rx_7 := co Rx_6 hb
  have Ry_7 := co Ry_6 hb
  have Rk_7 := co Rk_6 hb
  have Gba := gl0 L6.out
  have Nxba := nl0 Rx_6.out
  have Nyba := nl0 Ry_6.out
  have Nkba := nl0 Rk_6.out
  clear hW hb
  have wi := WI.out
  obtain ⟨fba0, zba0, fba1, zba1, fba2, zba2, fba3, zba3, fba4, zba4, fba5, zba5, xba⟩ := ly6 Rba_7.out
  have KD := Lib.hid (bd0 w7)
  have LD := ls L7 KD.out
  go_region_held3 (fun w' => ∀ b o, b < w7.heap.size → w'.cell? ⟨b, o, none⟩ = w7.cell? ⟨b, o, none⟩)
    (first | with_reducible exact (bcell KD.out).1 | with_reducible exact (bcell K9.out).1 | with_reducible exact (bcell K10.out).1 | with_reducible exact (bcell K11.out).1)
    (first
      | (go_at_call 35; (with_reducible refine (cscale (LD.out.get (A := A6) (c := c6) (xs := digs t.lo.1.natAbs) (by simp)) (LD.out.get (A := B6) (c := d6) (xs := digs t.hi.1.natAbs) (by simp)) Oa.out (t32_live HT.out LD.out) (cells_of Rk_7.out KD.out) JB.out.1 JB.out.2 Hr.out).mono ?_); rintro e w9 ⟨A9, c9, B9, d9, rfl, hd, he, hb⟩; (have K9 := bt KD hb); (have L9 := la2 LD hb hd he); clear hb hd he)
      | (go_at_call 35; (with_reducible refine (cscale (L9.out.get (A := A9) (c := c9) (xs := digs r.lo.1.natAbs) (by simp)) (L9.out.get (A := B9) (c := d9) (xs := digs r.hi.1.natAbs) (by simp)) Or.out (t32_live HT.out L9.out) (cells_of Rk_7.out K9.out) IB.out.1 IB.out.2 Ht.out).mono ?_); rintro e w10 ⟨A10, c10, B10, d10, rfl, hd, he, hb⟩; (have K10 := bt K9 hb); (have L10 := la2 L9 hb hd he); clear hb hd he)
      | (go_at_call 23; (with_reducible refine (csame1 (L10.out.get (A := A10) (c := c10) (xs := digs t.lo.1.natAbs) (by simp)) (L10.out.get (A := B10) (c := d10) (xs := digs t.hi.1.natAbs) (by simp)) Oa.out (L10.out.get (A := A6) (c := c6) (xs := digs t.lo.1.natAbs) (by simp)) (L10.out.get (A := B6) (c := d6) (xs := digs t.hi.1.natAbs) (by simp))).mono ?_); rintro e w11 ⟨rfl, hb⟩; (have K11 := bt K10 hb); (have L11 := Lib.hid (L10.out.step hb)); clear hb ))
  rename_i hHeld
  clear hHeld
  clear fba0 zba0 fba1 zba1 fba2 zba2 fba3 zba3 fba4 zba4 fba5 zba5 xba
  have Rx_11 := co Rx_7 K11.out
  have Ry_11 := co Ry_7 K11.out
  have Rk_11 := co Rk_7 K11.out
  have Rba_11 := co Rba_7 K11.out
  clear KD LD
  clear wi
  obtain ⟨fk0, zk0, fk1, zk1, xk⟩ := ly2 Rk_11.out
  obtain ⟨fba0, zba0, fba1, zba1, fba2, zba2, fba3, zba3, fba4, zba4, fba5, zba5, xba⟩ := ly6 Rba_11.out
  go_wp2_with fail
  refine (csub (L11.out.get (A := A6) (c := c6) (xs := digs t.lo.1.natAbs) (by simp)) (L11.out.get (A := B6) (c := d6) (xs := digs t.hi.1.natAbs) (by simp)) Oa.out (L11.out.get (A := A6) (c := c6) (xs := digs t.lo.1.natAbs) (by simp)) (L11.out.get (A := B6) (c := d6) (xs := digs t.hi.1.natAbs) (by simp)) Oa.out PCp.out (t32_live HT.out L11.out) Rk_11.out Hz.out).mono ?_
  rintro e w12 ⟨A12, c12, B12, d12, rfl, hd, he, hb⟩
  have L12 := la2 L11 hb hd he
  clear fk0 zk0 fk1 zk1 xk fba0 zba0 fba1 zba1 fba2 zba2 fba3 zba3 fba4 zba4 fba5 zba5 xba
  have Rx_12 := co Rx_11 hb
  have Ry_12 := co Ry_11 hb
  have Rk_12 := co Rk_11 hb
  have Rba_12 := co Rba_11 hb
  clear hb hd he
  go_upto_region 13 with fail
  obtain ⟨w13, hW, hb, Rbz_13⟩ := new1 w12 (.cells #[.bool (decide (z.lo.1 < 0)), .slice A12 (digs z.lo.1.natAbs).length c12, .int .i64 z.lo.2, .bool (decide (z.hi.1 < 0)), .slice B12 (digs z.hi.1.natAbs).length d12, .int .i64 z.hi.2] 34)
  rw [← hW]
  have L13 := ls L12 hb
  have Rx_13 := co Rx_12 hb
  have Ry_13 := co Ry_12 hb
  have Rk_13 := co Rk_12 hb
  have Rba_13 := co Rba_12 hb
  have Gbz := gl0 L12.out
  have Nxbz := nl0 Rx_12.out
  have Nybz := nl0 Ry_12.out
  have Nkbz := nl0 Rk_12.out
  have Nbabz := nl0 Rba_12.out
  clear hW hb
  obtain ⟨fbz0, zbz0, fbz1, zbz1, fbz2, zbz2, fbz3, zbz3, fbz4, zbz4, fbz5, zbz5, xbz⟩ := ly6 Rbz_13.out
  have KD := Lib.hid (bd0 w13)
  have LD := ls L13 KD.out
  go_region_held3 (fun w' => ∀ b o, b < w13.heap.size → w'.cell? ⟨b, o, none⟩ = w13.cell? ⟨b, o, none⟩)
    (first | with_reducible exact (bcell KD.out).1 | with_reducible exact (bcell K15.out).1 | with_reducible exact (bcell K16.out).1)
    (first
      | (go_at_call 28; (with_reducible refine (cneg1 (LD.out.get (A := A12) (c := c12) (xs := digs z.lo.1.natAbs) (by simp)) (LD.out.get (A := B12) (c := d12) (xs := digs z.hi.1.natAbs) (by simp)) Oz.out (cells_of Rk_13.out KD.out) TZ.out).mono ?_); rintro e w15 ⟨A15, c15, B15, d15, rfl, hd, he, hb⟩; (have K15 := bt KD hb); (have L15 := la2 LD hb hd he); clear hb hd he)
      | (go_at_call 23; (with_reducible refine (csame1 (L15.out.get (A := A15) (c := c15) (xs := digs z.lo.1.natAbs) (by simp)) (L15.out.get (A := B15) (c := d15) (xs := digs z.hi.1.natAbs) (by simp)) Oz.out (L15.out.get (A := A12) (c := c12) (xs := digs z.lo.1.natAbs) (by simp)) (L15.out.get (A := B12) (c := d12) (xs := digs z.hi.1.natAbs) (by simp))).mono ?_); rintro e w16 ⟨rfl, hb⟩; (have K16 := bt K15 hb); (have L16 := Lib.hid (L15.out.step hb)); clear hb ))
  rename_i hHeld
  clear hHeld
  clear fbz0 zbz0 fbz1 zbz1 fbz2 zbz2 fbz3 zbz3 fbz4 zbz4 fbz5 zbz5 xbz
  have Rx_16 := co Rx_13 K16.out
  have Ry_16 := co Ry_13 K16.out
  have Rk_16 := co Rk_13 K16.out
  have Rba_16 := co Rba_13 K16.out
  have Rbz_16 := co Rbz_13 K16.out
  clear KD LD
  obtain ⟨fk0, zk0, fk1, zk1, xk⟩ := ly2 Rk_16.out
  obtain ⟨fba0, zba0, fba1, zba1, fba2, zba2, fba3, zba3, fba4, zba4, fba5, zba5, xba⟩ := ly6 Rba_16.out
  go_wp2_with fail
  refine (cpoint (L16.out.get (A := A6) (c := c6) (xs := digs t.lo.1.natAbs) (by simp)) Oa.out.1 Rk_16.out).mono ?_
  rintro e w17 ⟨A17, c17, B17, d17, rfl, hd, he, hb⟩
  have L17 := la2 L16 hb hd he
  clear fk0 zk0 fk1 zk1 xk fba0 zba0 fba1 zba1 fba2 zba2 fba3 zba3 fba4 zba4 fba5 zba5 xba
  have Rx_17 := co Rx_16 hb
  have Ry_17 := co Ry_16 hb
  have Rk_17 := co Rk_16 hb
  have Rba_17 := co Rba_16 hb
  have Rbz_17 := co Rbz_16 hb
  clear hb hd he
  go_wp2_with fail
  obtain ⟨w18, hW, hb, Rbq_18⟩ := new1 w17 (.cells #[.bool (decide (t.lo.1 < 0)), .slice A17 (digs t.lo.1.natAbs).length c17, .int .i64 t.lo.2, .bool (decide (t.lo.1 < 0)), .slice B17 (digs t.lo.1.natAbs).length d17, .int .i64 t.lo.2] 34)
  rw [← hW]
  have L18 := ls L17 hb
  have Rx_18 := co Rx_17 hb
  have Ry_18 := co Ry_17 hb
  have Rk_18 := co Rk_17 hb
  have Rba_18 := co Rba_17 hb
  have Rbz_18 := co Rbz_17 hb
  have Gbq := gl0 L17.out
  have Nxbq := nl0 Rx_17.out
  have Nybq := nl0 Ry_17.out
  have Nkbq := nl0 Rk_17.out
  have Nbabq := nl0 Rba_17.out
  have Nbzbq := nl0 Rbz_17.out
  clear hW hb
  refine (qcmp (L18.out.get (A := A17) (c := c17) (xs := digs t.lo.1.natAbs) (by simp)) (L18.out.get (A := B17) (c := d17) (xs := digs t.lo.1.natAbs) (by simp)) Oa.out.1 Oa.out.1 C0.out).mono ?_
  rintro e w19 ⟨rfl, hb⟩
  have L19 := ls L18 hb
  have Rx_19 := co Rx_18 hb
  have Ry_19 := co Ry_18 hb
  have Rk_19 := co Rk_18 hb
  have Rba_19 := co Rba_18 hb
  have Rbz_19 := co Rbz_18 hb
  have Rbq_19 := co Rbq_18 hb
  clear hb 
  obtain ⟨fbz0, zbz0, fbz1, zbz1, fbz2, zbz2, fbz3, zbz3, fbz4, zbz4, fbz5, zbz5, xbz⟩ := ly6 Rbz_19.out
  obtain ⟨fk0, zk0, fk1, zk1, xk⟩ := ly2 Rk_19.out
  go_wp2_with fail
  refine (chas0 (L19.out.get (A := A12) (c := c12) (xs := digs z.lo.1.natAbs) (by simp)) (L19.out.get (A := B12) (c := d12) (xs := digs z.hi.1.natAbs) (by simp)) Oz.out ZI.out).mono ?_
  rintro e w20 ⟨rfl, hb⟩
  have L20 := ls L19 hb
  clear fbz0 zbz0 fbz1 zbz1 fbz2 zbz2 fbz3 zbz3 fbz4 zbz4 fbz5 zbz5 xbz fk0 zk0 fk1 zk1 xk
  have Rx_20 := co Rx_19 hb
  have Ry_20 := co Ry_19 hb
  have Rk_20 := co Rk_19 hb
  have Rba_20 := co Rba_19 hb
  have Rbz_20 := co Rbz_19 hb
  have Rbq_20 := co Rbq_19 hb
  clear hb 
  obtain ⟨fk0, zk0, fk1, zk1, xk⟩ := ly2 Rk_20.out
  go_wp2_with fail
  refine (ierr_any w2.heap.size 0 _ (row_c Rk_20.out (i := 0) rfl)).mono ?_
  rintro e w21 ⟨rfl, rfl⟩
  clear fk0 zk0 fk1 zk1 xk
  go_wp2
  go_ret
  exact ⟨rfl, L20.out.1⟩

set_option maxHeartbeats 8000000 in
set_option maxRecDepth 100000 in
theorem ivScales_p  (Ax : Option Addr) (cx : Nat) (sx : Bool) (xsx : List Nat) (ex : Int) (Ay : Option Addr) (cy : Nat) (sy : Bool) (xsy : List Nat) (ey : Int) (p : Int) (n : Int) (w : World)  (hx : Dg w Ax cx xsx) (lx : xsx.length ≤ 9223372036854775807) (ex0 : -9223372036854775808 ≤ ex) (ex1 : ex ≤ 9223372036854775807) (hy : Dg w Ay cy xsy) (ly : xsy.length ≤ 9223372036854775807) (ey0 : -9223372036854775808 ≤ ey) (ey1 : ey ≤ 9223372036854775807) (p0 : -9223372036854775808 ≤ p) (p1 : p ≤ 9223372036854775807) (n0 : -9223372036854775808 ≤ n) (n1 : n ≤ 9223372036854775807) (hT : T32 w) (hn : 0 ≤ n):
    Calls Tryz.prog 8 #[.agg #[.bool sx, .slice Ax xsx.length cx, .int .i64 ex], .agg #[.bool sy, .slice Ay xsy.length cy, .int .i64 ey], .int .i64 p, .int .i64 n] w fun e w' => e = .returned (.bool true) ∧ Below w.heap.size w w' := by
  obtain ⟨qx, hqx⟩ : ∃ q, tq sx xsx ex = q := ⟨_, rfl⟩
  have bdx : Qb (-90) 218 qx := hqx ▸ tq_bd hx.2.1
  have LXx := Lib.hid lx
  have Ex := Lib.hid (And.intro ex0 ex1)
  have HQx := Lib.hid hqx
  obtain ⟨qy, hqy⟩ : ∃ q, tq sy xsy ey = q := ⟨_, rfl⟩
  have bdy : Qb (-90) 218 qy := hqy ▸ tq_bd hy.2.1
  have LXy := Lib.hid ly
  have Ey := Lib.hid (And.intro ey0 ey1)
  have HQy := Lib.hid hqy
  obtain ⟨Pp, hPp⟩ : ∃ vv, precI p = vv := ⟨_, rfl⟩
  have hPbp := precI_bd p
  rw [hPp] at hPbp
  obtain ⟨kp, hkp⟩ : ∃ k : Nat, (k : Int) = Pp := ⟨Pp.toNat, by omega⟩
  have HPp := Lib.hid hPp
  have PCp := Lib.hid (show Pc kp Pp from ⟨hkp, by omega, by omega⟩)
  have Qp := Lib.hid (And.intro p0 p1)
  have hk2p : 1 ≤ kp := by omega
  have hk3p : kp ≤ 150 := by omega
  obtain ⟨a, ha⟩ : ∃ s, spanS qx qy = s := ⟨_, rfl⟩
  have sa_b : Sb (-90) 218 a := ha ▸ spanS_sb bdx bdy
  have Ha := Lib.hid ha
  have Oa := Lib.hid (sa_b.ok (by omega) (by omega))
  obtain ⟨j0, hj0⟩ : ∃ r, (n).tmod 401 = r := ⟨_, rfl⟩
  have hj2 := Int.tmod_eq_emod_of_nonneg (b := 401) (show 0 ≤ n by omega)
  rw [hj0] at hj2
  obtain ⟨j, hj⟩ : ∃ j, j0 - 200 = j := ⟨_, rfl⟩
  have jb0 : -200 ≤ j := by omega
  have jb1 : j ≤ 200 := by omega
  obtain ⟨i, hi⟩ : ∃ i, -j = i := ⟨_, rfl⟩
  have wj : IntKind.i64.wrap (j0 - 200) = j := by rw [IntWalk.i64_in _ (by omega)]; exact hj
  have wi : IntKind.i64.wrap (-j) = i := by rw [IntWalk.i64_in _ (by omega)]; exact hi
  have d0 : decide (n < 0) = false := by simp; omega
  obtain ⟨r, hr, br⟩ := scale_ex (n := j) sa_b (by omega) (by omega)
  obtain ⟨t, ht, bt⟩ := scale_ex (n := i) br (by omega) (by omega)
  obtain rfl := scale_back (sa_b.ok (by omega) (by omega)) hr ht hi
  obtain ⟨z, hz, bz, _, _⟩ := add_ex hk2p sa_b sa_b.neg (by omega) (by omega)
  have tz := twin hz
  have zi := zero_in (sa_b.ok (by omega) (by omega)) hz
  have Hr := Lib.hid hr
  have Ht := Lib.hid ht
  have Hz := Lib.hid hz
  have Or := Lib.hid (br.ok (by omega) (by omega))
  have Oz := Lib.hid (bz.ok (by omega) (by omega))
  have TZ := Lib.hid tz
  have ZI := Lib.hid (decide_eq_true zi)
  have HJ := Lib.hid hj0
  have WJ := Lib.hid wj
  have WI := Lib.hid wi
  have JB := Lib.hid (show -100000 ≤ j ∧ j ≤ 100000 by omega)
  have IB := Lib.hid (show -100000 ≤ i ∧ i ≤ 100000 by omega)
  have J0 := Lib.hid (show 0 ≤ j0 ∧ j0 ≤ 400 by omega)
  have D0 := Lib.hid d0
  have C0 := Lib.hid (cmpd_eq (rfl : qr t.lo = qr t.lo))
  have N0 := Lib.hid (And.intro n0 n1)
  have NN := Lib.hid hn
  have HT := Lib.hid hT
  clear hT
  have L0 := Lib.hid (((live_start w).add hx).add hy)
  clear hx lx ex0 ex1 hqx bdx hy ly ey0 ey1 hqy bdy p0 p1 hPp hPbp hkp n0 n1 hn ha sa_b hj0 hj2 hj jb0 jb1 hi wj wi d0 hr br ht bt hz bz tz zi hk2p hk3p
  go_enter Tryz.func8, Tryz.ntmps8
  go_wp2_with fail
  obtain ⟨v1, hW, hb, Rx_1, Ry_1⟩ := new2 w (.cells #[.bool sx, .slice Ax xsx.length cx, .int .i64 ex] 26) (.cells #[.bool sy, .slice Ay xsy.length cy, .int .i64 ey] 26)
  rw [← hW]
  have L1 := ls L0 hb
  have Gx := gl0 L0.out
  have Gy := gl1 L0.out
  have Nxy : w.heap.size < w.heap.size + 1 := by omega
  clear hW hb
  refine (iexamples_any _ (t32_live HT.out L1.out)).mono ?_
  rintro e w2 ⟨rfl, hb⟩
  have L2 := ls L1 hb
  have Rx_2 := co Rx_1 hb
  have Ry_2 := co Ry_1 hb
  clear hb 
  go_wp2_with fail
  refine (precI_any (q := Pp) Qp.out.1 Qp.out.2 HPp.out).mono ?_
  rintro e w3 ⟨rfl, rfl⟩
  go_wp2_with fail
  refine (inew_ok Pp _ (by have := PCp.out; unfold Pc at this; omega) (by have := PCp.out; unfold Pc at this; omega)).mono ?_
  rintro e w4 ⟨rfl, hw0⟩
  subst hw0
  obtain ⟨w5, hW, hb, Rk_5⟩ := new1 w2 (.cells #[.int .i64 0, .int .i64 Pp] 45)
  rw [← hW]
  have L5 := ls L2 hb
  have Rx_5 := co Rx_2 hb
  have Ry_5 := co Ry_2 hb
  have Gk := gl0 L2.out
  have Nxk := nl0 Rx_2.out
  have Nyk := nl0 Ry_2.out
  clear hW hb
  have hj := HJ.out
  have d0 := D0.out
  have wj := WJ.out
  have n0 := N0.out.1
  have n1 := N0.out.2
  have hn := NN.out
  obtain ⟨j00, j01⟩ := J0.out
  go_upto_region 10 with fail
  clear hj d0 wj n0 n1 hn
  obtain ⟨fx0, zx0, fx1, zx1, fx2, zx2, xx⟩ := ly3 Rx_5.out
  obtain ⟨fy0, zy0, fy1, zy1, fy2, zy2, xy⟩ := ly3 Ry_5.out
  go_wp2_with fail
  refine (span_any (L5.out.get (A := Ax) (c := cx) (xs := xsx) (by simp)) LXx.out Ex.out.1 Ex.out.2 (L5.out.get (A := Ay) (c := cy) (xs := xsy) (by simp)) LXy.out Ey.out.1 Ey.out.2 (t32_live HT.out L5.out) HQx.out HQy.out Ha.out).mono ?_
  rintro e w6 ⟨A6, c6, B6, d6, rfl, hd, he, hb⟩
  have L6 := la2 L5 hb hd he
  clear fx0 zx0 fx1 zx1 fx2 zx2 xx fy0 zy0 fy1 zy1 fy2 zy2 xy
  have Rx_6 := co Rx_5 hb
  have Ry_6 := co Ry_5 hb
  have Rk_6 := co Rk_5 hb
  clear hb hd he
  go_upto_region 11 with fail
  obtain ⟨w7, hW, hb, Rba_7⟩ := new1 w6 (.cells #[.bool (decide (t.lo.1 < 0)), .slice A6 (digs t.lo.1.natAbs).length c6, .int .i64 t.lo.2, .bool (decide (t.hi.1 < 0)), .slice B6 (digs t.hi.1.natAbs).length d6, .int .i64 t.hi.2] 34)
  rw [← hW]
  have L7 := ls L6 hb
  have Rx_7 := co Rx_6 hb
  have Ry_7 := co Ry_6 hb
  have Rk_7 := co Rk_6 hb
  have Gba := gl0 L6.out
  have Nxba := nl0 Rx_6.out
  have Nyba := nl0 Ry_6.out
  have Nkba := nl0 Rk_6.out
  clear hW hb
  have wi := WI.out
  obtain ⟨fba0, zba0, fba1, zba1, fba2, zba2, fba3, zba3, fba4, zba4, fba5, zba5, xba⟩ := ly6 Rba_7.out
  have KD := Lib.hid (bd0 w7)
  have LD := ls L7 KD.out
  go_region_held3 (fun w' => ∀ b o, b < w7.heap.size → w'.cell? ⟨b, o, none⟩ = w7.cell? ⟨b, o, none⟩)
    (first | with_reducible exact (bcell KD.out).1 | with_reducible exact (bcell K9.out).1 | with_reducible exact (bcell K10.out).1 | with_reducible exact (bcell K11.out).1)
    (first
      | (go_at_call 35; (with_reducible refine (cscale (LD.out.get (A := A6) (c := c6) (xs := digs t.lo.1.natAbs) (by simp)) (LD.out.get (A := B6) (c := d6) (xs := digs t.hi.1.natAbs) (by simp)) Oa.out (t32_live HT.out LD.out) (cells_of Rk_7.out KD.out) JB.out.1 JB.out.2 Hr.out).mono ?_); rintro e w9 ⟨A9, c9, B9, d9, rfl, hd, he, hb⟩; (have K9 := bt KD hb); (have L9 := la2 LD hb hd he); clear hb hd he)
      | (go_at_call 35; (with_reducible refine (cscale (L9.out.get (A := A9) (c := c9) (xs := digs r.lo.1.natAbs) (by simp)) (L9.out.get (A := B9) (c := d9) (xs := digs r.hi.1.natAbs) (by simp)) Or.out (t32_live HT.out L9.out) (cells_of Rk_7.out K9.out) IB.out.1 IB.out.2 Ht.out).mono ?_); rintro e w10 ⟨A10, c10, B10, d10, rfl, hd, he, hb⟩; (have K10 := bt K9 hb); (have L10 := la2 L9 hb hd he); clear hb hd he)
      | (go_at_call 23; (with_reducible refine (csame1 (L10.out.get (A := A10) (c := c10) (xs := digs t.lo.1.natAbs) (by simp)) (L10.out.get (A := B10) (c := d10) (xs := digs t.hi.1.natAbs) (by simp)) Oa.out (L10.out.get (A := A6) (c := c6) (xs := digs t.lo.1.natAbs) (by simp)) (L10.out.get (A := B6) (c := d6) (xs := digs t.hi.1.natAbs) (by simp))).mono ?_); rintro e w11 ⟨rfl, hb⟩; (have K11 := bt K10 hb); (have L11 := Lib.hid (L10.out.step hb)); clear hb ))
  rename_i hHeld
  clear hHeld
  clear fba0 zba0 fba1 zba1 fba2 zba2 fba3 zba3 fba4 zba4 fba5 zba5 xba
  have Rx_11 := co Rx_7 K11.out
  have Ry_11 := co Ry_7 K11.out
  have Rk_11 := co Rk_7 K11.out
  have Rba_11 := co Rba_7 K11.out
  clear KD LD
  clear wi
  obtain ⟨fk0, zk0, fk1, zk1, xk⟩ := ly2 Rk_11.out
  obtain ⟨fba0, zba0, fba1, zba1, fba2, zba2, fba3, zba3, fba4, zba4, fba5, zba5, xba⟩ := ly6 Rba_11.out
  go_wp2_with fail
  refine (csub (L11.out.get (A := A6) (c := c6) (xs := digs t.lo.1.natAbs) (by simp)) (L11.out.get (A := B6) (c := d6) (xs := digs t.hi.1.natAbs) (by simp)) Oa.out (L11.out.get (A := A6) (c := c6) (xs := digs t.lo.1.natAbs) (by simp)) (L11.out.get (A := B6) (c := d6) (xs := digs t.hi.1.natAbs) (by simp)) Oa.out PCp.out (t32_live HT.out L11.out) Rk_11.out Hz.out).mono ?_
  rintro e w12 ⟨A12, c12, B12, d12, rfl, hd, he, hb⟩
  have L12 := la2 L11 hb hd he
  clear fk0 zk0 fk1 zk1 xk fba0 zba0 fba1 zba1 fba2 zba2 fba3 zba3 fba4 zba4 fba5 zba5 xba
  have Rx_12 := co Rx_11 hb
  have Ry_12 := co Ry_11 hb
  have Rk_12 := co Rk_11 hb
  have Rba_12 := co Rba_11 hb
  clear hb hd he
  go_upto_region 13 with fail
  obtain ⟨w13, hW, hb, Rbz_13⟩ := new1 w12 (.cells #[.bool (decide (z.lo.1 < 0)), .slice A12 (digs z.lo.1.natAbs).length c12, .int .i64 z.lo.2, .bool (decide (z.hi.1 < 0)), .slice B12 (digs z.hi.1.natAbs).length d12, .int .i64 z.hi.2] 34)
  rw [← hW]
  have L13 := ls L12 hb
  have Rx_13 := co Rx_12 hb
  have Ry_13 := co Ry_12 hb
  have Rk_13 := co Rk_12 hb
  have Rba_13 := co Rba_12 hb
  have Gbz := gl0 L12.out
  have Nxbz := nl0 Rx_12.out
  have Nybz := nl0 Ry_12.out
  have Nkbz := nl0 Rk_12.out
  have Nbabz := nl0 Rba_12.out
  clear hW hb
  obtain ⟨fbz0, zbz0, fbz1, zbz1, fbz2, zbz2, fbz3, zbz3, fbz4, zbz4, fbz5, zbz5, xbz⟩ := ly6 Rbz_13.out
  have KD := Lib.hid (bd0 w13)
  have LD := ls L13 KD.out
  go_region_held3 (fun w' => ∀ b o, b < w13.heap.size → w'.cell? ⟨b, o, none⟩ = w13.cell? ⟨b, o, none⟩)
    (first | with_reducible exact (bcell KD.out).1 | with_reducible exact (bcell K15.out).1 | with_reducible exact (bcell K16.out).1)
    (first
      | (go_at_call 28; (with_reducible refine (cneg1 (LD.out.get (A := A12) (c := c12) (xs := digs z.lo.1.natAbs) (by simp)) (LD.out.get (A := B12) (c := d12) (xs := digs z.hi.1.natAbs) (by simp)) Oz.out (cells_of Rk_13.out KD.out) TZ.out).mono ?_); rintro e w15 ⟨A15, c15, B15, d15, rfl, hd, he, hb⟩; (have K15 := bt KD hb); (have L15 := la2 LD hb hd he); clear hb hd he)
      | (go_at_call 23; (with_reducible refine (csame1 (L15.out.get (A := A15) (c := c15) (xs := digs z.lo.1.natAbs) (by simp)) (L15.out.get (A := B15) (c := d15) (xs := digs z.hi.1.natAbs) (by simp)) Oz.out (L15.out.get (A := A12) (c := c12) (xs := digs z.lo.1.natAbs) (by simp)) (L15.out.get (A := B12) (c := d12) (xs := digs z.hi.1.natAbs) (by simp))).mono ?_); rintro e w16 ⟨rfl, hb⟩; (have K16 := bt K15 hb); (have L16 := Lib.hid (L15.out.step hb)); clear hb ))
  rename_i hHeld
  clear hHeld
  clear fbz0 zbz0 fbz1 zbz1 fbz2 zbz2 fbz3 zbz3 fbz4 zbz4 fbz5 zbz5 xbz
  have Rx_16 := co Rx_13 K16.out
  have Ry_16 := co Ry_13 K16.out
  have Rk_16 := co Rk_13 K16.out
  have Rba_16 := co Rba_13 K16.out
  have Rbz_16 := co Rbz_13 K16.out
  clear KD LD
  obtain ⟨fk0, zk0, fk1, zk1, xk⟩ := ly2 Rk_16.out
  obtain ⟨fba0, zba0, fba1, zba1, fba2, zba2, fba3, zba3, fba4, zba4, fba5, zba5, xba⟩ := ly6 Rba_16.out
  go_wp2_with fail
  refine (cpoint (L16.out.get (A := A6) (c := c6) (xs := digs t.lo.1.natAbs) (by simp)) Oa.out.1 Rk_16.out).mono ?_
  rintro e w17 ⟨A17, c17, B17, d17, rfl, hd, he, hb⟩
  have L17 := la2 L16 hb hd he
  clear fk0 zk0 fk1 zk1 xk fba0 zba0 fba1 zba1 fba2 zba2 fba3 zba3 fba4 zba4 fba5 zba5 xba
  have Rx_17 := co Rx_16 hb
  have Ry_17 := co Ry_16 hb
  have Rk_17 := co Rk_16 hb
  have Rba_17 := co Rba_16 hb
  have Rbz_17 := co Rbz_16 hb
  clear hb hd he
  go_wp2_with fail
  obtain ⟨w18, hW, hb, Rbq_18⟩ := new1 w17 (.cells #[.bool (decide (t.lo.1 < 0)), .slice A17 (digs t.lo.1.natAbs).length c17, .int .i64 t.lo.2, .bool (decide (t.lo.1 < 0)), .slice B17 (digs t.lo.1.natAbs).length d17, .int .i64 t.lo.2] 34)
  rw [← hW]
  have L18 := ls L17 hb
  have Rx_18 := co Rx_17 hb
  have Ry_18 := co Ry_17 hb
  have Rk_18 := co Rk_17 hb
  have Rba_18 := co Rba_17 hb
  have Rbz_18 := co Rbz_17 hb
  have Gbq := gl0 L17.out
  have Nxbq := nl0 Rx_17.out
  have Nybq := nl0 Ry_17.out
  have Nkbq := nl0 Rk_17.out
  have Nbabq := nl0 Rba_17.out
  have Nbzbq := nl0 Rbz_17.out
  clear hW hb
  refine (qcmp (L18.out.get (A := A17) (c := c17) (xs := digs t.lo.1.natAbs) (by simp)) (L18.out.get (A := B17) (c := d17) (xs := digs t.lo.1.natAbs) (by simp)) Oa.out.1 Oa.out.1 C0.out).mono ?_
  rintro e w19 ⟨rfl, hb⟩
  have L19 := ls L18 hb
  have Rx_19 := co Rx_18 hb
  have Ry_19 := co Ry_18 hb
  have Rk_19 := co Rk_18 hb
  have Rba_19 := co Rba_18 hb
  have Rbz_19 := co Rbz_18 hb
  have Rbq_19 := co Rbq_18 hb
  clear hb 
  obtain ⟨fbz0, zbz0, fbz1, zbz1, fbz2, zbz2, fbz3, zbz3, fbz4, zbz4, fbz5, zbz5, xbz⟩ := ly6 Rbz_19.out
  obtain ⟨fk0, zk0, fk1, zk1, xk⟩ := ly2 Rk_19.out
  go_wp2_with fail
  refine (chas0 (L19.out.get (A := A12) (c := c12) (xs := digs z.lo.1.natAbs) (by simp)) (L19.out.get (A := B12) (c := d12) (xs := digs z.hi.1.natAbs) (by simp)) Oz.out ZI.out).mono ?_
  rintro e w20 ⟨rfl, hb⟩
  have L20 := ls L19 hb
  clear fbz0 zbz0 fbz1 zbz1 fbz2 zbz2 fbz3 zbz3 fbz4 zbz4 fbz5 zbz5 xbz fk0 zk0 fk1 zk1 xk
  have Rx_20 := co Rx_19 hb
  have Ry_20 := co Ry_19 hb
  have Rk_20 := co Rk_19 hb
  have Rba_20 := co Rba_19 hb
  have Rbz_20 := co Rbz_19 hb
  have Rbq_20 := co Rbq_19 hb
  clear hb 
  obtain ⟨fk0, zk0, fk1, zk1, xk⟩ := ly2 Rk_20.out
  go_wp2_with fail
  refine (ierr_any w2.heap.size 0 _ (row_c Rk_20.out (i := 0) rfl)).mono ?_
  rintro e w21 ⟨rfl, rfl⟩
  clear fk0 zk0 fk1 zk1 xk
  go_wp2
  go_ret
  exact ⟨rfl, L20.out.1⟩

theorem ivScales_any (Ax : Option Addr) (cx : Nat) (sx : Bool) (xsx : List Nat) (ex : Int) (Ay : Option Addr) (cy : Nat) (sy : Bool) (xsy : List Nat) (ey : Int) (p n : Int) (w : World) (hx : Dg w Ax cx xsx) (lx : xsx.length ≤ 9223372036854775807) (ex0 : -9223372036854775808 ≤ ex) (ex1 : ex ≤ 9223372036854775807) (hy : Dg w Ay cy xsy) (ly : xsy.length ≤ 9223372036854775807) (ey0 : -9223372036854775808 ≤ ey) (ey1 : ey ≤ 9223372036854775807) (p0 : -9223372036854775808 ≤ p) (p1 : p ≤ 9223372036854775807) (n0 : -9223372036854775808 ≤ n) (n1 : n ≤ 9223372036854775807) (hT : T32 w) :
    Calls Tryz.prog 8 #[.agg #[.bool sx, .slice Ax xsx.length cx, .int .i64 ex], .agg #[.bool sy, .slice Ay xsy.length cy, .int .i64 ey], .int .i64 p, .int .i64 n] w fun e w' => e = .returned (.bool true) ∧ Below w.heap.size w w' := by
  by_cases hn : n < 0
  · exact ivScales_n Ax cx sx xsx ex Ay cy sy xsy ey p n w hx lx ex0 ex1 hy ly ey0 ey1 p0 p1 n0 n1 hT hn
  · exact ivScales_p Ax cx sx xsx ex Ay cy sy xsy ey p n w hx lx ex0 ex1 hy ly ey0 ey1 p0 p1 n0 n1 hT (by omega)
end Go.Proofs.YtijodbjdajddoaaGreatDoor
end

section
/-
  IvScales, FOR EVERY ARGUMENT: the law returns true, and each argument reads behind the call as it read ahead of it. THE TIED CARD.
-/
namespace Go.Proofs.YtijodbjdajddoaaGreatDoor.ivScales
open Go Go.ChangeShapes Go.WideShapes Go.ChangeAt Go.RowKit
set_option linter.unusedVariables false
/-- The door's own heap meets the condition. -/
theorem door_met (os : Os) (args : Array Value) : laidMetH Tryz.prog Rows.ivScalesRow.laid ((World.doorLaid Tryz.prog 400 os).forCall (fun _ _ => 0) ⟨#[], args, []⟩).memory :=
  laidMetH_of_parts3 (fuel := 8) (laidMet_of_run' 8 (by kernel_rfl) (by kernel_rfl)) (by kernel_rfl) (by kernel_rfl)
set_option maxRecDepth 100000 in
theorem lifted (os : Os) (started : os.Started) (H : Type) (enc : TypeId × Value → H) :
    ReturnsInHanded {} Tryz.checked os 8 .any (fun w args => (Rows.ivScalesSpec.pre enc Tryz.prog Tryz.f8 [] false w args ∧ laidMetH Tryz.prog Rows.ivScalesRow.laid w) ∧ sizedMet enc Tryz.prog Tryz.f8 (OpenSpec.ofChange Rows.ivScalesSpec) false w args)
      (Rows.ivScalesSpec.post enc Tryz.prog Tryz.f8 false true false false) := by
  refine returnsInHanded_of_change_and (C := Tryz.checked) (X := fun w _ => laidMetH Tryz.prog Rows.ivScalesRow.laid w) (fun _ _ _ hh h => h.of_heap hh) own started (by kernel_rfl) Tryz.func8
    (ChangeSpec.witness_shaped (enc := enc) (C := Tryz.checked) (os := os) (X := fun w _ => laidMetH Tryz.prog Rows.ivScalesRow.laid w) false (World.doorLaid Tryz.prog 400 os) #[.agg #[.bool false, .slice none 0 0, .int .i64 0], .agg #[.bool false, .slice none 0 0, .int .i64 0], .int .i64 0, .int .i64 0] 8 rfl (World.shaped_of_RefB (by kernel_rfl) (by kernel_rfl)) (by kernel_rfl) (by kernel_rfl) (by kernel_rfl) (door_met os _)) ?_
  intro W base args ds gs before hval0 hW _ _ hL _
  rw [MakeChecks.laidMetH_plain _ _ _ (by kernel_rfl)] at hL
  have htab := t32_laid hL
  clear hL
  have hval : ∀ (j : Nat) t v, Tryz.f8.params[j]? = some t → args[j]? = some v → Value.okWide Tryz.prog W .any base t v := hval0
  have hW' := hW
  obtain ⟨p, q, hA0, hV, rfl, hfz, hnd⟩ := hW
  have hA : DataW.TrodAll enc Tryz.prog W 0 (fun _ => true) true Tryz.f8.params.toList args.toList ds p := hA0
  rw [Tryz.params8] at hA hval
  obtain ⟨v0, vs0, d0, ds0, p0, q0, hargs, rfl, rfl, h0, r0⟩ := trodAll_cons hA
  obtain ⟨v1, vs1, d1, ds1, p1, q1, rfl, rfl, rfl, h1, r1⟩ := trodAll_cons r0
  obtain ⟨v2, vs2, d2, ds2, p2, q2, rfl, rfl, rfl, h2, r2⟩ := trodAll_cons r1
  obtain ⟨v3, vs3, d3, ds3, p3, q3, rfl, rfl, rfl, h3, r3⟩ := trodAll_cons r2
  obtain ⟨rfl, rfl, rfl⟩ := trodAll_nil r3
  obtain rfl : args = #[v0, v1, v2, v3] := by cases args; simp_all
  obtain ⟨rfl, rfl⟩ := trodVars_none hV
  obtain ⟨s0, A0, c0, xs0, x0, rfl, g0, l0, x00, x01⟩ := open_d (hval 0 _ _ rfl rfl) h0
  obtain ⟨s1, A1, c1, xs1, x1, rfl, g1, l1, x10, x11⟩ := open_d (hval 1 _ _ rfl rfl) h1
  obtain ⟨a2, rfl, e2, e2', g2⟩ := open_int Tryz.underlying3 (hval 2 _ _ rfl rfl) h2
  obtain ⟨a3, rfl, e3, e3', g3⟩ := open_int Tryz.underlying3 (hval 3 _ _ rfl rfl) h3
  clear hA0
  simp only [List.append_nil] at hW'
  refine (ivScales_any A0 c0 s0 xs0 x0 A1 c1 s1 xs1 x1 a2 a3 W g0 l0 x00 x01 g1 l1 x10 x11 (i64_lo g2) (i64_hi g2) (i64_lo g3) (i64_hi g3) htab).mono fun e W' ⟨he, hb⟩ => ?_
  subst he
  have hlt := hW'.lt
  refine ⟨_, rfl, law_post (tb := 4) hW' hb rfl rfl Tryz.underlying4 rfl rfl fun sp hsp => ?_⟩
  have hr := trodAll_cons_mk (again (by kernel_rfl) (of_decide_eq_true (by kernel_rfl)) h0 hb (fun x hx => hlt x (by simp [hx])) sp (fun x hx => hsp x (by simp [hx]))) (trodAll_cons_mk (again (by kernel_rfl) (of_decide_eq_true (by kernel_rfl)) h1 hb (fun x hx => hlt x (by simp [hx])) sp (fun x hx => hsp x (by simp [hx]))) (trodAll_cons_mk (again (by kernel_rfl) (of_decide_eq_true (by kernel_rfl)) h2 hb (fun x hx => hlt x (by simp [hx])) sp (fun x hx => hsp x (by simp [hx]))) (trodAll_cons_mk (again (by kernel_rfl) (of_decide_eq_true (by kernel_rfl)) h3 hb (fun x hx => hlt x (by simp [hx])) sp (fun x hx => hsp x (by simp [hx]))) trodAll_mk0)))
  simp only [List.append_nil] at hr
  exact hr
theorem row_holds : Rows.IvScalesSaid :=
  OpenClaim.holds_of_wide 8 Tryz.f8 rfl rfl rfl rfl rfl rfl rfl ⟨rfl, rfl, rfl, rfl, rfl⟩ rfl rfl rfl rfl rfl (by kernel_rfl) Tryz.func8 (by kernel_rfl)
    (of_decide_eq_true (by kernel_rfl)) (by unfold Func.isWrapper; first | (rw [if_pos (by decide +kernel)]; kernel_rfl) | (rw [if_neg (by decide +kernel)]; exact ⟨rfl, rfl⟩))
    (fun os started H enc _ => lifted os started H enc)
/-- THE TIED CARD. -/
theorem proved : Rows.IvScalesCardSaid :=
  Claim7.holds_tied_plain_at .later [] [.data] true (true, "ce2d7296bee61de3211586e1632cf2a6cfe767e426ec5d84453dd9d1173b67cd") false
    row_holds (fun _ h => by cases h) (by kernel_rfl) (fun _ h => by cases h) ivScales_row_tie rfl ⟨rfl, rfl⟩ (by kernel_rfl) rfl
    (fun f fn hf hfn => by
      obtain rfl : f = 8 := Option.some.inj ((show Tryz.prog.funcNamed Rows.ivScalesRow.func = some 8 by kernel_rfl).symm.trans hf) |>.symm
      obtain rfl : fn = Tryz.f8 := (Option.some.inj (Tryz.func8.symm.trans hfn)).symm
      exact ⟨by kernel_rfl, fun j t ht => by
        have hall : (Tryz.f8.params.toList.all fun u => !Tryz.prog.wantsStandIn u) = true := by kernel_rfl
        exact (show Tryz.prog.wantsStandIn t = false by simpa using List.all_eq_true.1 hall t (Array.mem_toList_iff.2 (Array.mem_of_getElem? ht)))⟩)
    (by kernel_rfl)
end Go.Proofs.YtijodbjdajddoaaGreatDoor.ivScales
end
