import Derived.Test.YtnfafgpnnpapdaaDoorMB8
import Derived.Test.YtnfafgpnnpapdaaDoorMB9
import Derived.Test.YtnfafgpnnpapdaaDoorTie
import Derived.Test.YtnfafgpnnpapdaaDoorCards
import Derived.SevenTiedAt
import Derived.OpenShut
import Derived.ChangeMaps5
section
/-
  DyadSteps.
-/
namespace Go.Proofs.YtnfafgpnnpapdaaDoor
open Go.RowKit
set_option linter.unusedSimpArgs false
set_option linter.unusedVariables false
theorem Tm.bd {M E : Int} (h : Tm M E) : Bd (-300) 492 M E := by
  refine ⟨h.1, ?_⟩
  by_cases h0 : M = 0
  · exact .inl h0
  · exact .inr (h.2.2 h0)
theorem Bd.rt {L H M E : Int} (h : Bd L H M E) (hL : -65536 ≤ L) (hH : H ≤ 65536) : Rt M E := by
  refine ⟨h.1, ?_⟩
  rcases h.2 with h0 | ⟨a, b⟩
  · have := nf_zero h.1 h0; omega
  · omega

set_option maxHeartbeats 8000000 in
set_option maxRecDepth 100000 in
theorem dyadSteps_any  (Ax : Option Addr) (cx : Nat) (sx : Bool) (xsx : List Nat) (ex : Int) (p : Int) (q : Int) (up : Bool) (w : World)  (hx : Dg w Ax cx xsx) (lx : xsx.length ≤ 9223372036854775807) (ex0 : -9223372036854775808 ≤ ex) (ex1 : ex ≤ 9223372036854775807) (p0 : -9223372036854775808 ≤ p) (p1 : p ≤ 9223372036854775807) (q0 : -9223372036854775808 ≤ q) (q1 : q ≤ 9223372036854775807) (hT : T32 w):
    Calls Tryd.prog 14 #[.agg #[.bool sx, .slice Ax xsx.length cx, .int .i64 ex], .int .i64 p, .int .i64 q, .bool up] w fun e w' => e = .returned (.bool true) ∧ Below w.heap.size w w' := by
  obtain ⟨mx, hmx⟩ : ∃ m, nm (sg sx (val (xsx.take 6))) = m := ⟨_, rfl⟩
  obtain ⟨yx, hyx⟩ : ∃ m, nx (sg sx (val (xsx.take 6))) (tameE ex) = m := ⟨_, rfl⟩
  have tx : Tm mx yx := hmx ▸ hyx ▸ tame_tm hx.2.1
  have bx := tx.bd
  have HMx := Lib.hid hmx
  have HYx := Lib.hid hyx
  have LXx := Lib.hid lx
  have E0x := Lib.hid ex0
  have E1x := Lib.hid ex1
  have Rx := Lib.hid tx.rt
  have Ix := Lib.hid tx.inR
  have Dx := Lib.hid (inr_len tx.inR)
  obtain ⟨Pp, hPp⟩ : ∃ vv, precV p = vv := ⟨_, rfl⟩
  have hPbp := precV_bd p
  rw [hPp] at hPbp
  obtain ⟨kp, hkp⟩ : ∃ k : Nat, (k : Int) = Pp := ⟨Pp.toNat, by omega⟩
  have HPp := Lib.hid hPp
  have HKp := Lib.hid hkp
  have Q0p := Lib.hid p0
  have Q1p := Lib.hid p1
  have hk2p : 2 ≤ kp := by omega
  have hk4p : kp ≤ 400 := by omega
  have hk3p : kp ≤ 200 := by omega
  obtain ⟨Pq, hPq⟩ : ∃ vv, precV q = vv := ⟨_, rfl⟩
  have hPbq := precV_bd q
  rw [hPq] at hPbq
  obtain ⟨kq, hkq⟩ : ∃ k : Nat, (k : Int) = Pq := ⟨Pq.toNat, by omega⟩
  have HPq := Lib.hid hPq
  have HKq := Lib.hid hkq
  have Q0q := Lib.hid q0
  have Q1q := Lib.hid q1
  have hk2q : 2 ≤ kq := by omega
  have hk4q : kq ≤ 400 := by omega
  have hk3q : kq ≤ 200 := by omega
  obtain ⟨M1, E1, r1⟩ := rd_exists mx yx tx.1 (max kp kq) up (by omega)
  have b1 := bx.round (by omega) r1
  obtain ⟨M2, E2, r2⟩ := rd_exists M1 E1 b1.1 (min kp kq) up (by omega)
  have b2 := b1.round (by omega) r2
  have r3 := r1.steps (by omega) (by omega) r2
  have Ru := Lib.hid (Bd.rt b1 (by omega) (by omega))
  have Iu := Lib.hid (Bd.inR b1 (by omega) (by omega))
  have Du := Lib.hid (inr_len Iu.out)
  have Rv := Lib.hid (Bd.rt b2 (by omega) (by omega))
  have Iv := Lib.hid (Bd.inR b2 (by omega) (by omega))
  have Dv := Lib.hid (inr_len Iv.out)
  have Rz := Lib.hid (Bd.rt b2 (by omega) (by omega))
  have Iz := Lib.hid (Bd.inR b2 (by omega) (by omega))
  have Dz := Lib.hid (inr_len Iz.out)
  have HRu := Lib.hid r1
  have HRv := Lib.hid r2
  have HRz := Lib.hid r3
  obtain ⟨Pm, hPm⟩ : ∃ k : Int, max Pp Pq = k := ⟨_, rfl⟩
  obtain ⟨Pn, hPn⟩ : ∃ k : Int, min Pp Pq = k := ⟨_, rfl⟩
  have KM := Lib.hid (show ((max kp kq : Nat) : Int) = Pm by omega)
  have KN := Lib.hid (show ((min kp kq : Nat) : Int) = Pn by omega)
  have hm2 : 2 ≤ max kp kq ∧ max kp kq ≤ 400 := by omega
  have hn2 : 2 ≤ min kp kq ∧ min kp kq ≤ 400 := by omega
  have HM2 := Lib.hid hm2
  have HN2 := Lib.hid hn2
  have HT := Lib.hid hT
  clear hT
  have L0 := Lib.hid ((live_start w).add hx)
  clear hx lx ex0 ex1 hmx hyx tx bx p0 p1 hPp hPbp hkp q0 q1 hPq hPbq hkq r1 b1 r2 b2 r3 hm2 hn2
  go_enter Tryd.func14, Tryd.ntmps14
  go_wp2_with fail
  obtain ⟨v1, hW⟩ : ∃ W : World, W = (w.alloc (.cells #[.bool sx, .slice Ax xsx.length cx, .int .i64 ex] 26)) := ⟨_, rfl⟩
  rw [← hW]
  have hb : Below w.heap.size w v1 := by rw [hW]; exact ((Below.refl _ _).alloc (by simp <;> omega) _)
  have L1 := Lib.hid (L0.out.step hb)
  have Rx_1 := Lib.hid (show v1.heap[w.heap.size]? = some (.cells #[.bool sx, .slice Ax xsx.length cx, .int .i64 ex] 26 (0, 0)) by rw [hW]; have := heap_alloc_new w (.cells #[.bool sx, .slice Ax xsx.length cx, .int .i64 ex] 26); simpa using this)
  have Gx : w.heap.size ≤ w.heap.size := by have := L0.out.1.size; omega
  clear hW hb
  refine (dexamples_any _ (t32_live HT.out L1.out)).mono ?_
  rintro e w2 ⟨rfl, hb⟩
  have L2 := Lib.hid (L1.out.step hb)
  have Rx_2 := Lib.hid (cells_of Rx_1.out hb)
  clear hb 
  have fx0 := row_c (i := 0) Rx_2.out rfl
  have zx0 := frozen_of_row _ _ 0 _ _ Rx_2.out
  have fx1 := row_c (i := 1) Rx_2.out rfl
  have zx1 := frozen_of_row _ _ 1 _ _ Rx_2.out
  have fx2 := row_c (i := 2) Rx_2.out rfl
  have zx2 := frozen_of_row _ _ 2 _ _ Rx_2.out
  have xx := heap_lt Rx_2.out
  go_wp2_with fail
  refine (tame_any (M := mx) (E := yx) (L2.out.get (A := Ax) (c := cx) (xs := xsx) (by simp)) (t32_live HT.out L2.out) LXx.out E0x.out E1x.out HMx.out HYx.out).mono ?_
  rintro e w3 ⟨A3, c3, rfl, hd, hb⟩
  have L3 := Lib.hid ((L2.out.step hb).add hd)
  clear fx0 zx0 fx1 zx1 fx2 zx2 xx
  have Rx_3 := Lib.hid (cells_of Rx_2.out hb)
  clear hb hd
  go_wp2_with fail
  obtain ⟨w4, hW⟩ : ∃ W : World, W = (w3.alloc (.cells #[.bool (decide (mx < 0)), .slice A3 (digs mx.natAbs).length c3, .int .i64 yx] 26)) := ⟨_, rfl⟩
  rw [← hW]
  have hb : Below w3.heap.size w3 w4 := by rw [hW]; exact ((Below.refl _ _).alloc (by simp <;> omega) _)
  have L4 := Lib.hid (L3.out.step hb)
  have Rx_4 := Lib.hid (cells_of Rx_3.out hb)
  have Rtx_4 := Lib.hid (show w4.heap[w3.heap.size]? = some (.cells #[.bool (decide (mx < 0)), .slice A3 (digs mx.natAbs).length c3, .int .i64 yx] 26 (0, 0)) by rw [hW]; have := heap_alloc_new w3 (.cells #[.bool (decide (mx < 0)), .slice A3 (digs mx.natAbs).length c3, .int .i64 yx] 26); simpa using this)
  have Gtx : w.heap.size ≤ w3.heap.size := by have := L3.out.1.size; omega
  have Nxtx : w.heap.size < w3.heap.size := by have := heap_lt Rx_3.out; omega
  clear hW hb
  refine (prec_any (q := Pp) Q0p.out Q1p.out HPp.out).mono ?_
  rintro e w5 ⟨rfl, rfl⟩
  go_wp2_with fail
  refine (prec_any (q := Pq) Q0q.out Q1q.out HPq.out).mono ?_
  rintro e w6 ⟨rfl, rfl⟩
  have ftx0 := row_c (i := 0) Rtx_4.out rfl
  have ztx0 := frozen_of_row _ _ 0 _ _ Rtx_4.out
  have ftx1 := row_c (i := 1) Rtx_4.out rfl
  have ztx1 := frozen_of_row _ _ 1 _ _ Rtx_4.out
  have ftx2 := row_c (i := 2) Rtx_4.out rfl
  have ztx2 := frozen_of_row _ _ 2 _ _ Rtx_4.out
  have xtx := heap_lt Rtx_4.out
  go_wp2_with fail
  refine (round_yes (m := mx) (x := yx) (M := M1) (E := E1) (up := up) (L4.out.get (A := A3) (c := c3) (xs := digs mx.natAbs) (by simp)) Dx.out Rx.out (t32_live HT.out L4.out) (p := max kp kq) KM.out HM2.out.1 HM2.out.2 HRu.out Iu.out).mono ?_
  rintro e w7 ⟨A7, c7, rfl, hd, hb⟩
  have L7 := Lib.hid ((L4.out.step hb).add hd)
  clear ftx0 ztx0 ftx1 ztx1 ftx2 ztx2 xtx
  have Rx_7 := Lib.hid (cells_of Rx_4.out hb)
  have Rtx_7 := Lib.hid (cells_of Rtx_4.out hb)
  clear hb hd
  go_wp2_with fail
  obtain ⟨w8, hW⟩ : ∃ W : World, W = (w7.alloc (.cells #[.bool (decide (M1 < 0)), .slice A7 (digs M1.natAbs).length c7, .int .i64 E1] 26)) := ⟨_, rfl⟩
  rw [← hW]
  have hb : Below w7.heap.size w7 w8 := by rw [hW]; exact ((Below.refl _ _).alloc (by simp <;> omega) _)
  have L8 := Lib.hid (L7.out.step hb)
  have Rx_8 := Lib.hid (cells_of Rx_7.out hb)
  have Rtx_8 := Lib.hid (cells_of Rtx_7.out hb)
  have Rbu_8 := Lib.hid (show w8.heap[w7.heap.size]? = some (.cells #[.bool (decide (M1 < 0)), .slice A7 (digs M1.natAbs).length c7, .int .i64 E1] 26 (0, 0)) by rw [hW]; have := heap_alloc_new w7 (.cells #[.bool (decide (M1 < 0)), .slice A7 (digs M1.natAbs).length c7, .int .i64 E1] 26); simpa using this)
  have Gbu : w.heap.size ≤ w7.heap.size := by have := L7.out.1.size; omega
  have Nxbu : w.heap.size < w7.heap.size := by have := heap_lt Rx_7.out; omega
  have Ntxbu : w3.heap.size < w7.heap.size := by have := heap_lt Rtx_7.out; omega
  clear hW hb
  refine (round_yes (m := M1) (x := E1) (M := M2) (E := E2) (up := up) (L8.out.get (A := A7) (c := c7) (xs := digs M1.natAbs) (by simp)) Du.out Ru.out (t32_live HT.out L8.out) (p := min kp kq) KN.out HN2.out.1 HN2.out.2 HRv.out Iv.out).mono ?_
  rintro e w9 ⟨A9, c9, rfl, hd, hb⟩
  have L9 := Lib.hid ((L8.out.step hb).add hd)
  have Rx_9 := Lib.hid (cells_of Rx_8.out hb)
  have Rtx_9 := Lib.hid (cells_of Rtx_8.out hb)
  have Rbu_9 := Lib.hid (cells_of Rbu_8.out hb)
  clear hb hd
  have ftx0 := row_c (i := 0) Rtx_9.out rfl
  have ztx0 := frozen_of_row _ _ 0 _ _ Rtx_9.out
  have ftx1 := row_c (i := 1) Rtx_9.out rfl
  have ztx1 := frozen_of_row _ _ 1 _ _ Rtx_9.out
  have ftx2 := row_c (i := 2) Rtx_9.out rfl
  have ztx2 := frozen_of_row _ _ 2 _ _ Rtx_9.out
  have xtx := heap_lt Rtx_9.out
  go_wp2_with fail
  obtain ⟨w10, hW⟩ : ∃ W : World, W = (w9.alloc (.cells #[.bool (decide (M2 < 0)), .slice A9 (digs M2.natAbs).length c9, .int .i64 E2] 26)) := ⟨_, rfl⟩
  rw [← hW]
  have hb : Below w9.heap.size w9 w10 := by rw [hW]; exact ((Below.refl _ _).alloc (by simp <;> omega) _)
  have L10 := Lib.hid (L9.out.step hb)
  have Rx_10 := Lib.hid (cells_of Rx_9.out hb)
  have Rtx_10 := Lib.hid (cells_of Rtx_9.out hb)
  have Rbu_10 := Lib.hid (cells_of Rbu_9.out hb)
  have Rbv_10 := Lib.hid (show w10.heap[w9.heap.size]? = some (.cells #[.bool (decide (M2 < 0)), .slice A9 (digs M2.natAbs).length c9, .int .i64 E2] 26 (0, 0)) by rw [hW]; have := heap_alloc_new w9 (.cells #[.bool (decide (M2 < 0)), .slice A9 (digs M2.natAbs).length c9, .int .i64 E2] 26); simpa using this)
  have Gbv : w.heap.size ≤ w9.heap.size := by have := L9.out.1.size; omega
  have Nxbv : w.heap.size < w9.heap.size := by have := heap_lt Rx_9.out; omega
  have Ntxbv : w3.heap.size < w9.heap.size := by have := heap_lt Rtx_9.out; omega
  have Nbubv : w7.heap.size < w9.heap.size := by have := heap_lt Rbu_9.out; omega
  clear hW hb
  clear ftx0 ztx0 ftx1 ztx1 ftx2 ztx2 xtx
  refine (round_yes (m := mx) (x := yx) (M := M2) (E := E2) (up := up) (L10.out.get (A := A3) (c := c3) (xs := digs mx.natAbs) (by simp)) Dx.out Rx.out (t32_live HT.out L10.out) (p := min kp kq) KN.out HN2.out.1 HN2.out.2 HRz.out Iz.out).mono ?_
  rintro e w11 ⟨A11, c11, rfl, hd, hb⟩
  have L11 := Lib.hid ((L10.out.step hb).add hd)
  have Rx_11 := Lib.hid (cells_of Rx_10.out hb)
  have Rtx_11 := Lib.hid (cells_of Rtx_10.out hb)
  have Rbu_11 := Lib.hid (cells_of Rbu_10.out hb)
  have Rbv_11 := Lib.hid (cells_of Rbv_10.out hb)
  clear hb hd
  have fbv0 := row_c (i := 0) Rbv_11.out rfl
  have zbv0 := frozen_of_row _ _ 0 _ _ Rbv_11.out
  have fbv1 := row_c (i := 1) Rbv_11.out rfl
  have zbv1 := frozen_of_row _ _ 1 _ _ Rbv_11.out
  have fbv2 := row_c (i := 2) Rbv_11.out rfl
  have zbv2 := frozen_of_row _ _ 2 _ _ Rbv_11.out
  have xbv := heap_lt Rbv_11.out
  go_wp2_with fail
  obtain ⟨w12, hW⟩ : ∃ W : World, W = (w11.alloc (.cells #[.bool (decide (M2 < 0)), .slice A11 (digs M2.natAbs).length c11, .int .i64 E2] 26)) := ⟨_, rfl⟩
  rw [← hW]
  have hb : Below w11.heap.size w11 w12 := by rw [hW]; exact ((Below.refl _ _).alloc (by simp <;> omega) _)
  have L12 := Lib.hid (L11.out.step hb)
  have Rx_12 := Lib.hid (cells_of Rx_11.out hb)
  have Rtx_12 := Lib.hid (cells_of Rtx_11.out hb)
  have Rbu_12 := Lib.hid (cells_of Rbu_11.out hb)
  have Rbv_12 := Lib.hid (cells_of Rbv_11.out hb)
  have Rbz_12 := Lib.hid (show w12.heap[w11.heap.size]? = some (.cells #[.bool (decide (M2 < 0)), .slice A11 (digs M2.natAbs).length c11, .int .i64 E2] 26 (0, 0)) by rw [hW]; have := heap_alloc_new w11 (.cells #[.bool (decide (M2 < 0)), .slice A11 (digs M2.natAbs).length c11, .int .i64 E2] 26); simpa using this)
  have Gbz : w.heap.size ≤ w11.heap.size := by have := L11.out.1.size; omega
  have Nxbz : w.heap.size < w11.heap.size := by have := heap_lt Rx_11.out; omega
  have Ntxbz : w3.heap.size < w11.heap.size := by have := heap_lt Rtx_11.out; omega
  have Nbubz : w7.heap.size < w11.heap.size := by have := heap_lt Rbu_11.out; omega
  have Nbvbz : w9.heap.size < w11.heap.size := by have := heap_lt Rbv_11.out; omega
  clear hW hb
  clear fbv0 zbv0 fbv1 zbv1 fbv2 zbv2 xbv
  refine (dsame_d (m := M2) (n := M2) (x := E2) (y := E2) (q := true) (L12.out.get (A := A9) (c := c9) (xs := digs M2.natAbs) (by simp)) (L12.out.get (A := A11) (c := c11) (xs := digs M2.natAbs) (by simp)) Dv.out (by simp)).mono ?_
  rintro e w13 ⟨rfl, hb⟩
  have L13 := Lib.hid (L12.out.step hb)
  have Rx_13 := Lib.hid (cells_of Rx_12.out hb)
  have Rtx_13 := Lib.hid (cells_of Rtx_12.out hb)
  have Rbu_13 := Lib.hid (cells_of Rbu_12.out hb)
  have Rbv_13 := Lib.hid (cells_of Rbv_12.out hb)
  have Rbz_13 := Lib.hid (cells_of Rbz_12.out hb)
  clear hb 
  go_wp2
  go_ret
  exact ⟨rfl, L13.out.1⟩
end Go.Proofs.YtnfafgpnnpapdaaDoor
end

section
/-
  DyadFloors.
-/
namespace Go.Proofs.YtnfafgpnnpapdaaDoor
open Go.RowKit
set_option linter.unusedSimpArgs false
set_option linter.unusedVariables false
set_option maxHeartbeats 8000000 in
set_option maxRecDepth 100000 in
theorem dyadFloors_g  (Ax : Option Addr) (cx : Nat) (sx : Bool) (xsx : List Nat) (ex : Int) (Ay : Option Addr) (cy : Nat) (sy : Bool) (xsy : List Nat) (ey : Int) (w : World)  (hx : Dg w Ax cx xsx) (lx : xsx.length ≤ 9223372036854775807) (ex0 : -9223372036854775808 ≤ ex) (ex1 : ex ≤ 9223372036854775807) (hy : Dg w Ay cy xsy) (ly : xsy.length ≤ 9223372036854775807) (ey0 : -9223372036854775808 ≤ ey) (ey1 : ey ≤ 9223372036854775807) (hT : T32 w) (c1 : 0 < cmpd (dv (nm (sg sx (val (xsx.take 6)))) (nx (sg sx (val (xsx.take 6))) (tameE ex))) (dv (nm (sg sy (val (xsy.take 6)))) (nx (sg sy (val (xsy.take 6))) (tameE ey)))):
    Calls Tryd.prog 10 #[.agg #[.bool sx, .slice Ax xsx.length cx, .int .i64 ex], .agg #[.bool sy, .slice Ay xsy.length cy, .int .i64 ey]] w fun e w' => e = .returned (.bool true) ∧ Below w.heap.size w w' := by
  obtain ⟨mx, hmx⟩ : ∃ m, nm (sg sx (val (xsx.take 6))) = m := ⟨_, rfl⟩
  obtain ⟨yx, hyx⟩ : ∃ m, nx (sg sx (val (xsx.take 6))) (tameE ex) = m := ⟨_, rfl⟩
  have tx : Tm mx yx := hmx ▸ hyx ▸ tame_tm hx.2.1
  have bx := tx.bd
  have HMx := Lib.hid hmx
  have HYx := Lib.hid hyx
  have LXx := Lib.hid lx
  have E0x := Lib.hid ex0
  have E1x := Lib.hid ex1
  have Rx := Lib.hid tx.rt
  have Ix := Lib.hid tx.inR
  have Dx := Lib.hid (inr_len tx.inR)
  obtain ⟨my, hmy⟩ : ∃ m, nm (sg sy (val (xsy.take 6))) = m := ⟨_, rfl⟩
  obtain ⟨yy, hyy⟩ : ∃ m, nx (sg sy (val (xsy.take 6))) (tameE ey) = m := ⟨_, rfl⟩
  have ty : Tm my yy := hmy ▸ hyy ▸ tame_tm hy.2.1
  skip
  have HMy := Lib.hid hmy
  have HYy := Lib.hid hyy
  have LXy := Lib.hid ly
  have E0y := Lib.hid ey0
  have E1y := Lib.hid ey1
  have Ry := Lib.hid ty.rt
  have Iy := Lib.hid ty.inR
  have Dy := Lib.hid (inr_len ty.inR)
  rw [hmx, hyx, hmy, hyy] at c1
  have byy := ty.bd
  obtain ⟨KF, hKF⟩ : ∃ K : Nat, K = 493 := ⟨_, rfl⟩
  have ebx : -300 ≤ yx ∧ yx ≤ 492 := by
    by_cases h0 : mx = 0
    · have := nf_zero tx.1 h0; omega
    · have := tx.2.2 h0; omega
  have YAx := Lib.hid (show -100000 ≤ yx by omega)
  have YBx := Lib.hid (show yx ≤ 100000 by omega)
  obtain ⟨z1, hz1⟩ : ∃ z, flo mx yx = z := ⟨_, rfl⟩
  have fb1 := flo_bd (m := mx) (x := yx)
  have fs1 := flo_size hKF (m := mx) (x := yx) tx.2.1 (by by_cases h0 : mx = 0; exact .inl h0; exact .inr (tx.2.2 h0).2)
  rw [hz1] at fb1 fs1
  have bz1 : bl z1 ≤ KF := blen_le fs1
  have lz1 : (digs z1.natAbs).length ≤ 20 := by have := len_bl z1; omega
  have LZ1 := Lib.hid lz1
  have HZ1 := Lib.hid hz1
  have eby : -300 ≤ yy ∧ yy ≤ 492 := by
    by_cases h0 : my = 0
    · have := nf_zero ty.1 h0; omega
    · have := ty.2.2 h0; omega
  have YAy := Lib.hid (show -100000 ≤ yy by omega)
  have YBy := Lib.hid (show yy ≤ 100000 by omega)
  obtain ⟨z2, hz2⟩ : ∃ z, flo my yy = z := ⟨_, rfl⟩
  have fb2 := flo_bd (m := my) (x := yy)
  have fs2 := flo_size hKF (m := my) (x := yy) ty.2.1 (by by_cases h0 : my = 0; exact .inl h0; exact .inr (ty.2.2 h0).2)
  rw [hz2] at fb2 fs2
  have bz2 : bl z2 ≤ KF := blen_le fs2
  have lz2 : (digs z2.natAbs).length ≤ 20 := by have := len_bl z2; omega
  have LZ2 := Lib.hid lz2
  have HZ2 := Lib.hid hz2
  obtain ⟨un, hu⟩ : ∃ u : Int, u = 1 := ⟨_, rfl⟩
  have FR : ∀ W, Calls Tryd.prog 50 #[.int .i64 1] W fun e w' => Zr un W e w' := fun W => by subst hu; exact zfrom_any 1 W (by omega) (by omega)
  have FR := Lib.hid FR
  have LU := Lib.hid (show (digs un.natAbs).length ≤ 2 from digs_small (by omega))
  obtain ⟨zu, hzu⟩ : ∃ z, z1 + un = z := ⟨_, rfl⟩
  have HZU := Lib.hid hzu
  have fsu : zu.natAbs < 2 ^ (KF + 1) := Nat.lt_of_le_of_lt (show zu.natAbs ≤ 2 ^ KF by omega) (Nat.pow_lt_pow_right (by omega) (by omega))
  have bzu : bl zu ≤ KF + 1 := blen_le fsu
  have lzu : (digs zu.natAbs).length ≤ 20 := by have := len_bl zu; omega
  obtain ⟨Ml, El, i1⟩ := isD_ex z1 0
  have b1 := Bd.of (m := z1) (e := 0) (L := 0) (H := 500) (by omega) (by omega) i1
  obtain ⟨Mh, Eh, i2⟩ := isD_ex zu 0
  have b2 := Bd.of (m := zu) (e := 0) (L := 0) (H := 500) (by omega) (by omega) i2
  have Rlo := Lib.hid (Bd.rt b1 (by omega) (by omega))
  have Ilo := Lib.hid (Bd.inR b1 (by omega) (by omega))
  have Dlo := Lib.hid (inr_len Ilo.out)
  have Rhi := Lib.hid (Bd.rt b2 (by omega) (by omega))
  have Ihi := Lib.hid (Bd.inR b2 (by omega) (by omega))
  have Dhi := Lib.hid (inr_len Ihi.out)
  have MKlo := Lib.hid (fun W A c (hW : Dg W A c (digs z1.natAbs)) hT => make_yes A c (decide (z1 < 0)) (digs z1.natAbs) 0 Ml El W hW (by omega) hT (by omega) (by omega) (by rw [sg_dz]; exact i1.of.1) (by rw [sg_dz]; exact i1.of.2) Ilo.out)
  have MKhi := Lib.hid (fun W A c (hW : Dg W A c (digs zu.natAbs)) hT => make_yes A c (decide (zu < 0)) (digs zu.natAbs) 0 Mh Eh W hW (by omega) hT (by omega) (by omega) (by rw [sg_dz]; exact i2.of.1) (by rw [sg_dz]; exact i2.of.2) Ihi.out)
  obtain ⟨j1, hj1⟩ : ∃ c, cmpd (dv Ml El) (dv mx yx) = c := ⟨_, rfl⟩
  obtain ⟨j2, hj2⟩ : ∃ c, cmpd (dv mx yx) (dv Mh Eh) = c := ⟨_, rfl⟩
  obtain ⟨j3, hj3⟩ : ∃ c, cmpd (dv mx yx) (dv my yy) = c := ⟨_, rfl⟩
  have g1 : decide (j1 ≤ 0) = true := by rw [decide_eq_true_eq, ← hj1]; refine cmpd_le.2 ?_; rw [i1.2]; exact fb1.1
  have g2 : decide (j2 < 0) = true := by rw [decide_eq_true_eq, ← hj2]; refine cmpd_lt'.2 ?_; rw [i2.2, ← hzu, hu]; exact fb1.2
  rw [hj3] at c1
  have g3 : decide (0 < j3) = true := by simp; omega
  have G1 := Lib.hid g1
  have G2 := Lib.hid g2
  have G3 := Lib.hid g3
  have C1 := Lib.hid hj1
  have C2 := Lib.hid hj2
  have C3 := Lib.hid hj3
  have HT := Lib.hid hT
  clear hT
  have L0 := Lib.hid (((live_start w).add hx).add hy)
  clear hx lx ex0 ex1 hmx hyx tx bx hy ly ey0 ey1 hmy hyy ty byy c1 ebx eby hz1 hz2 fb1 fb2 fs1 fs2 bz1 bz2 lz1 lz2 hu hzu fsu bzu lzu hKF i1 b1 i2 b2 hj1 hj2 hj3 g1 g2 g3
  go_enter Tryd.func10, Tryd.ntmps10
  go_wp2_with fail
  obtain ⟨v1, hW⟩ : ∃ W : World, W = ((w.alloc (.cells #[.bool sx, .slice Ax xsx.length cx, .int .i64 ex] 26)).alloc (.cells #[.bool sy, .slice Ay xsy.length cy, .int .i64 ey] 26)) := ⟨_, rfl⟩
  rw [← hW]
  have hb : Below w.heap.size w v1 := by rw [hW]; exact (((Below.refl _ _).alloc (by simp <;> omega) _).alloc (by simp <;> omega) _)
  have L1 := Lib.hid (L0.out.step hb)
  have Rx_1 := Lib.hid (show v1.heap[w.heap.size]? = some (.cells #[.bool sx, .slice Ax xsx.length cx, .int .i64 ex] 26 (0, 0)) by rw [hW]; have := heap_alloc_new w (.cells #[.bool sx, .slice Ax xsx.length cx, .int .i64 ex] 26); rw [heap_alloc_old _ _ (by simp <;> omega)]; simpa using this)
  have Gx : w.heap.size ≤ w.heap.size := by have := L0.out.1.size; omega
  have Ry_1 := Lib.hid (show v1.heap[w.heap.size + 1]? = some (.cells #[.bool sy, .slice Ay xsy.length cy, .int .i64 ey] 26 (0, 0)) by rw [hW]; have := heap_alloc_new (w.alloc (.cells #[.bool sx, .slice Ax xsx.length cx, .int .i64 ex] 26)) (.cells #[.bool sy, .slice Ay xsy.length cy, .int .i64 ey] 26); simpa using this)
  have Gy : w.heap.size ≤ w.heap.size + 1 := by have := L0.out.1.size; omega
  have Nxy : w.heap.size < w.heap.size + 1 := by omega
  clear hW hb
  refine (dexamples_any _ (t32_live HT.out L1.out)).mono ?_
  rintro e w2 ⟨rfl, hb⟩
  have L2 := Lib.hid (L1.out.step hb)
  have Rx_2 := Lib.hid (cells_of Rx_1.out hb)
  have Ry_2 := Lib.hid (cells_of Ry_1.out hb)
  clear hb 
  have fx0 := row_c (i := 0) Rx_2.out rfl
  have zx0 := frozen_of_row _ _ 0 _ _ Rx_2.out
  have fx1 := row_c (i := 1) Rx_2.out rfl
  have zx1 := frozen_of_row _ _ 1 _ _ Rx_2.out
  have fx2 := row_c (i := 2) Rx_2.out rfl
  have zx2 := frozen_of_row _ _ 2 _ _ Rx_2.out
  have xx := heap_lt Rx_2.out
  go_wp2_with fail
  refine (tame_any (M := mx) (E := yx) (L2.out.get (A := Ax) (c := cx) (xs := xsx) (by simp)) (t32_live HT.out L2.out) LXx.out E0x.out E1x.out HMx.out HYx.out).mono ?_
  rintro e w3 ⟨A3, c3, rfl, hd, hb⟩
  have L3 := Lib.hid ((L2.out.step hb).add hd)
  clear fx0 zx0 fx1 zx1 fx2 zx2 xx
  have Rx_3 := Lib.hid (cells_of Rx_2.out hb)
  have Ry_3 := Lib.hid (cells_of Ry_2.out hb)
  clear hb hd
  have fy0 := row_c (i := 0) Ry_3.out rfl
  have zy0 := frozen_of_row _ _ 0 _ _ Ry_3.out
  have fy1 := row_c (i := 1) Ry_3.out rfl
  have zy1 := frozen_of_row _ _ 1 _ _ Ry_3.out
  have fy2 := row_c (i := 2) Ry_3.out rfl
  have zy2 := frozen_of_row _ _ 2 _ _ Ry_3.out
  have xy := heap_lt Ry_3.out
  go_wp2_with fail
  obtain ⟨w4, hW⟩ : ∃ W : World, W = (w3.alloc (.cells #[.bool (decide (mx < 0)), .slice A3 (digs mx.natAbs).length c3, .int .i64 yx] 26)) := ⟨_, rfl⟩
  rw [← hW]
  have hb : Below w3.heap.size w3 w4 := by rw [hW]; exact ((Below.refl _ _).alloc (by simp <;> omega) _)
  have L4 := Lib.hid (L3.out.step hb)
  have Rx_4 := Lib.hid (cells_of Rx_3.out hb)
  have Ry_4 := Lib.hid (cells_of Ry_3.out hb)
  have Rtx_4 := Lib.hid (show w4.heap[w3.heap.size]? = some (.cells #[.bool (decide (mx < 0)), .slice A3 (digs mx.natAbs).length c3, .int .i64 yx] 26 (0, 0)) by rw [hW]; have := heap_alloc_new w3 (.cells #[.bool (decide (mx < 0)), .slice A3 (digs mx.natAbs).length c3, .int .i64 yx] 26); simpa using this)
  have Gtx : w.heap.size ≤ w3.heap.size := by have := L3.out.1.size; omega
  have Nxtx : w.heap.size < w3.heap.size := by have := heap_lt Rx_3.out; omega
  have Nytx : w.heap.size + 1 < w3.heap.size := by have := heap_lt Ry_3.out; omega
  clear hW hb
  clear fy0 zy0 fy1 zy1 fy2 zy2 xy
  refine (tame_any (M := my) (E := yy) (L4.out.get (A := Ay) (c := cy) (xs := xsy) (by simp)) (t32_live HT.out L4.out) LXy.out E0y.out E1y.out HMy.out HYy.out).mono ?_
  rintro e w5 ⟨A5, c5, rfl, hd, hb⟩
  have L5 := Lib.hid ((L4.out.step hb).add hd)
  have Rx_5 := Lib.hid (cells_of Rx_4.out hb)
  have Ry_5 := Lib.hid (cells_of Ry_4.out hb)
  have Rtx_5 := Lib.hid (cells_of Rtx_4.out hb)
  clear hb hd
  have ftx0 := row_c (i := 0) Rtx_5.out rfl
  have ztx0 := frozen_of_row _ _ 0 _ _ Rtx_5.out
  have ftx1 := row_c (i := 1) Rtx_5.out rfl
  have ztx1 := frozen_of_row _ _ 1 _ _ Rtx_5.out
  have ftx2 := row_c (i := 2) Rtx_5.out rfl
  have ztx2 := frozen_of_row _ _ 2 _ _ Rtx_5.out
  have xtx := heap_lt Rtx_5.out
  go_wp2_with fail
  obtain ⟨w6, hW⟩ : ∃ W : World, W = (w5.alloc (.cells #[.bool (decide (my < 0)), .slice A5 (digs my.natAbs).length c5, .int .i64 yy] 26)) := ⟨_, rfl⟩
  rw [← hW]
  have hb : Below w5.heap.size w5 w6 := by rw [hW]; exact ((Below.refl _ _).alloc (by simp <;> omega) _)
  have L6 := Lib.hid (L5.out.step hb)
  have Rx_6 := Lib.hid (cells_of Rx_5.out hb)
  have Ry_6 := Lib.hid (cells_of Ry_5.out hb)
  have Rtx_6 := Lib.hid (cells_of Rtx_5.out hb)
  have Rty_6 := Lib.hid (show w6.heap[w5.heap.size]? = some (.cells #[.bool (decide (my < 0)), .slice A5 (digs my.natAbs).length c5, .int .i64 yy] 26 (0, 0)) by rw [hW]; have := heap_alloc_new w5 (.cells #[.bool (decide (my < 0)), .slice A5 (digs my.natAbs).length c5, .int .i64 yy] 26); simpa using this)
  have Gty : w.heap.size ≤ w5.heap.size := by have := L5.out.1.size; omega
  have Nxty : w.heap.size < w5.heap.size := by have := heap_lt Rx_5.out; omega
  have Nyty : w.heap.size + 1 < w5.heap.size := by have := heap_lt Ry_5.out; omega
  have Ntxty : w3.heap.size < w5.heap.size := by have := heap_lt Rtx_5.out; omega
  clear hW hb
  clear ftx0 ztx0 ftx1 ztx1 ftx2 ztx2 xtx
  refine (floor_yes A3 c3 mx yx z1 _ (L6.out.get (A := A3) (c := c3) (xs := digs mx.natAbs) (by simp)) Dx.out Rx.out Ix.out YAx.out YBx.out HZ1.out).mono ?_
  rintro e w7 ⟨A7, c7, rfl, hd, hb⟩
  have L7 := Lib.hid ((L6.out.step hb).add hd)
  have Rx_7 := Lib.hid (cells_of Rx_6.out hb)
  have Ry_7 := Lib.hid (cells_of Ry_6.out hb)
  have Rtx_7 := Lib.hid (cells_of Rtx_6.out hb)
  have Rty_7 := Lib.hid (cells_of Rty_6.out hb)
  clear hb hd
  have fty0 := row_c (i := 0) Rty_7.out rfl
  have zty0 := frozen_of_row _ _ 0 _ _ Rty_7.out
  have fty1 := row_c (i := 1) Rty_7.out rfl
  have zty1 := frozen_of_row _ _ 1 _ _ Rty_7.out
  have fty2 := row_c (i := 2) Rty_7.out rfl
  have zty2 := frozen_of_row _ _ 2 _ _ Rty_7.out
  have xty := heap_lt Rty_7.out
  go_wp2_with fail
  obtain ⟨w8, hW⟩ : ∃ W : World, W = (w7.alloc (.cells #[.bool (decide (z1 < 0)), .slice A7 (digs z1.natAbs).length c7] 24)) := ⟨_, rfl⟩
  rw [← hW]
  have hb : Below w7.heap.size w7 w8 := by rw [hW]; exact ((Below.refl _ _).alloc (by simp <;> omega) _)
  have L8 := Lib.hid (L7.out.step hb)
  have Rx_8 := Lib.hid (cells_of Rx_7.out hb)
  have Ry_8 := Lib.hid (cells_of Ry_7.out hb)
  have Rtx_8 := Lib.hid (cells_of Rtx_7.out hb)
  have Rty_8 := Lib.hid (cells_of Rty_7.out hb)
  have Rf_8 := Lib.hid (show w8.heap[w7.heap.size]? = some (.cells #[.bool (decide (z1 < 0)), .slice A7 (digs z1.natAbs).length c7] 24 (0, 0)) by rw [hW]; have := heap_alloc_new w7 (.cells #[.bool (decide (z1 < 0)), .slice A7 (digs z1.natAbs).length c7] 24); simpa using this)
  have Gf : w.heap.size ≤ w7.heap.size := by have := L7.out.1.size; omega
  have Nxf : w.heap.size < w7.heap.size := by have := heap_lt Rx_7.out; omega
  have Nyf : w.heap.size + 1 < w7.heap.size := by have := heap_lt Ry_7.out; omega
  have Ntxf : w3.heap.size < w7.heap.size := by have := heap_lt Rtx_7.out; omega
  have Ntyf : w5.heap.size < w7.heap.size := by have := heap_lt Rty_7.out; omega
  clear hW hb
  clear fty0 zty0 fty1 zty1 fty2 zty2 xty
  refine (floor_yes A5 c5 my yy z2 _ (L8.out.get (A := A5) (c := c5) (xs := digs my.natAbs) (by simp)) Dy.out Ry.out Iy.out YAy.out YBy.out HZ2.out).mono ?_
  rintro e w9 ⟨A9, c9, rfl, hd, hb⟩
  have L9 := Lib.hid ((L8.out.step hb).add hd)
  have Rx_9 := Lib.hid (cells_of Rx_8.out hb)
  have Ry_9 := Lib.hid (cells_of Ry_8.out hb)
  have Rtx_9 := Lib.hid (cells_of Rtx_8.out hb)
  have Rty_9 := Lib.hid (cells_of Rty_8.out hb)
  have Rf_9 := Lib.hid (cells_of Rf_8.out hb)
  clear hb hd
  have ff0 := row_c (i := 0) Rf_9.out rfl
  have zf0 := frozen_of_row _ _ 0 _ _ Rf_9.out
  have ff1 := row_c (i := 1) Rf_9.out rfl
  have zf1 := frozen_of_row _ _ 1 _ _ Rf_9.out
  have xf := heap_lt Rf_9.out
  go_wp2_with fail
  obtain ⟨w10, hW⟩ : ∃ W : World, W = (w9.alloc (.cells #[.bool (decide (z2 < 0)), .slice A9 (digs z2.natAbs).length c9] 24)) := ⟨_, rfl⟩
  rw [← hW]
  have hb : Below w9.heap.size w9 w10 := by rw [hW]; exact ((Below.refl _ _).alloc (by simp <;> omega) _)
  have L10 := Lib.hid (L9.out.step hb)
  have Rx_10 := Lib.hid (cells_of Rx_9.out hb)
  have Ry_10 := Lib.hid (cells_of Ry_9.out hb)
  have Rtx_10 := Lib.hid (cells_of Rtx_9.out hb)
  have Rty_10 := Lib.hid (cells_of Rty_9.out hb)
  have Rf_10 := Lib.hid (cells_of Rf_9.out hb)
  have Rg_10 := Lib.hid (show w10.heap[w9.heap.size]? = some (.cells #[.bool (decide (z2 < 0)), .slice A9 (digs z2.natAbs).length c9] 24 (0, 0)) by rw [hW]; have := heap_alloc_new w9 (.cells #[.bool (decide (z2 < 0)), .slice A9 (digs z2.natAbs).length c9] 24); simpa using this)
  have Gg : w.heap.size ≤ w9.heap.size := by have := L9.out.1.size; omega
  have Nxg : w.heap.size < w9.heap.size := by have := heap_lt Rx_9.out; omega
  have Nyg : w.heap.size + 1 < w9.heap.size := by have := heap_lt Ry_9.out; omega
  have Ntxg : w3.heap.size < w9.heap.size := by have := heap_lt Rtx_9.out; omega
  have Ntyg : w5.heap.size < w9.heap.size := by have := heap_lt Rty_9.out; omega
  have Nfg : w7.heap.size < w9.heap.size := by have := heap_lt Rf_9.out; omega
  clear hW hb
  clear ff0 zf0 ff1 zf1 xf
  refine (MKlo.out _ A7 c7 (L10.out.get (A := A7) (c := c7) (xs := digs z1.natAbs) (by simp)) (t32_live HT.out L10.out)).mono ?_
  rintro e w11 ⟨A11, c11, rfl, hd, hb⟩
  have L11 := Lib.hid ((L10.out.step hb).add hd)
  have Rx_11 := Lib.hid (cells_of Rx_10.out hb)
  have Ry_11 := Lib.hid (cells_of Ry_10.out hb)
  have Rtx_11 := Lib.hid (cells_of Rtx_10.out hb)
  have Rty_11 := Lib.hid (cells_of Rty_10.out hb)
  have Rf_11 := Lib.hid (cells_of Rf_10.out hb)
  have Rg_11 := Lib.hid (cells_of Rg_10.out hb)
  clear hb hd
  go_wp2_with fail
  obtain ⟨w12, hW⟩ : ∃ W : World, W = (w11.alloc (.cells #[.bool (decide (Ml < 0)), .slice A11 (digs Ml.natAbs).length c11, .int .i64 El] 26)) := ⟨_, rfl⟩
  rw [← hW]
  have hb : Below w11.heap.size w11 w12 := by rw [hW]; exact ((Below.refl _ _).alloc (by simp <;> omega) _)
  have L12 := Lib.hid (L11.out.step hb)
  have Rx_12 := Lib.hid (cells_of Rx_11.out hb)
  have Ry_12 := Lib.hid (cells_of Ry_11.out hb)
  have Rtx_12 := Lib.hid (cells_of Rtx_11.out hb)
  have Rty_12 := Lib.hid (cells_of Rty_11.out hb)
  have Rf_12 := Lib.hid (cells_of Rf_11.out hb)
  have Rg_12 := Lib.hid (cells_of Rg_11.out hb)
  have Rblo_12 := Lib.hid (show w12.heap[w11.heap.size]? = some (.cells #[.bool (decide (Ml < 0)), .slice A11 (digs Ml.natAbs).length c11, .int .i64 El] 26 (0, 0)) by rw [hW]; have := heap_alloc_new w11 (.cells #[.bool (decide (Ml < 0)), .slice A11 (digs Ml.natAbs).length c11, .int .i64 El] 26); simpa using this)
  have Gblo : w.heap.size ≤ w11.heap.size := by have := L11.out.1.size; omega
  have Nxblo : w.heap.size < w11.heap.size := by have := heap_lt Rx_11.out; omega
  have Nyblo : w.heap.size + 1 < w11.heap.size := by have := heap_lt Ry_11.out; omega
  have Ntxblo : w3.heap.size < w11.heap.size := by have := heap_lt Rtx_11.out; omega
  have Ntyblo : w5.heap.size < w11.heap.size := by have := heap_lt Rty_11.out; omega
  have Nfblo : w7.heap.size < w11.heap.size := by have := heap_lt Rf_11.out; omega
  have Ngblo : w9.heap.size < w11.heap.size := by have := heap_lt Rg_11.out; omega
  clear hW hb
  refine wp_operands_late (W := w12) rfl 6 8 9 [0, 1, 2, 3, 4, 5, 7] [39, 40, 41, 42, 38, 43, 44, 14] (fun i u ww => match i with | 6 => u = .bool true | 0 => u = .agg #[.bool (decide (z1 < 0)), .slice A7 (digs z1.natAbs).length c7] | 1 => ∃ A c, u = .agg #[.bool (decide (un < 0)), .slice A (digs un.natAbs).length c] ∧ Dg ww A c (digs un.natAbs) | 2 => ∃ A c, u = .agg #[.bool (decide (zu < 0)), .slice A (digs zu.natAbs).length c] ∧ Dg ww A c (digs zu.natAbs) | 3 => ∃ A c, u = .tuple #[.agg #[.bool (decide (Mh < 0)), .slice A (digs Mh.natAbs).length c, .int .i64 Eh], .bool true] ∧ Dg ww A c (digs Mh.natAbs) | 4 => ∃ A c, u = .tuple #[.agg #[.bool (decide (Mh < 0)), .slice A (digs Mh.natAbs).length c, .int .i64 Eh], .bool true] ∧ Dg ww A c (digs Mh.natAbs) | 5 => ∃ A c, u = .agg #[.bool (decide (Mh < 0)), .slice A (digs Mh.natAbs).length c, .int .i64 Eh] ∧ Dg ww A c (digs Mh.natAbs) | 7 => ∃ g, u = .pointer (some ⟨g, 0, none⟩) ∧ ww.heap[g]? = some (.cells #[.bool false, .slice none 0 0, .int .i64 0] 26 (0, 0)) ∧ w12.heap.size ≤ g | _ => True)
    (by kernel_rfl) (by kernel_rfl) (by decide) (by kernel_rfl) (by kernel_rfl) (by kernel_rfl) (by decide) (by kernel_rfl) (by kernel_rfl) (by kernel_rfl) (by kernel_rfl) (by kernel_rfl) (by kernel_rfl) (by kernel_rfl) (by kernel_rfl) ?_ ?_ ?_
  · intro i u x y hi h hb
    have hi' : i = 6 ∨ i = 0 ∨ i = 1 ∨ i = 2 ∨ i = 3 ∨ i = 4 ∨ i = 5 ∨ i = 7 := by simpa using hi
    rcases hi' with rfl | rfl | rfl | rfl | rfl | rfl | rfl | rfl
    · exact h
    · exact h
    · obtain ⟨A, c, e, hd⟩ := h
      exact ⟨A, c, e, hd.below hb⟩
    · obtain ⟨A, c, e, hd⟩ := h
      exact ⟨A, c, e, hd.below hb⟩
    · obtain ⟨A, c, e, hd⟩ := h
      exact ⟨A, c, e, hd.below hb⟩
    · obtain ⟨A, c, e, hd⟩ := h
      exact ⟨A, c, e, hd.below hb⟩
    · obtain ⟨A, c, e, hd⟩ := h
      exact ⟨A, c, e, hd.below hb⟩
    · obtain ⟨g, e, hg, hge⟩ := h
      exact ⟨g, e, cells_of hg hb, hge⟩
  · intro i a x KK hi hF hb hw hK
    have hi' : i = 6 ∨ i = 0 ∨ i = 1 ∨ i = 2 ∨ i = 3 ∨ i = 4 ∨ i = 5 ∨ i = 7 := by simpa using hi
    rcases hi' with rfl | rfl | rfl | rfl | rfl | rfl | rfl | rfl
    · simp only [wpOp, List.getElem?_toArray, List.getElem?_cons_succ, List.getElem?_cons_zero, Region.wanted, if_true]
      refine Or.inl ?_
      obtain ⟨A', c', e0, hd⟩ := hw 4 (by kernel_rfl)
      have e0 : a.eval (.tmp 38) = _ := e0
      clear hw hF
      simp only [Oper.wp, execOp]
      rw [e0]
      go_simp
      exact hK _ x (by first | rfl | simp) (Below.refl _ _)
    · simp only [wpOp, List.getElem?_toArray, List.getElem?_cons_zero, Region.wanted, if_true]
      refine Or.inl ?_
      have e0 : a.eval (.tmp 8) = .pointer (some ⟨w7.heap.size, 0, none⟩) := hF.2.2 8 (by decide)
      have f0 := row_cell Rf_12.out hb 0
      have f1 := row_cell Rf_12.out hb 1
      simp only [List.getElem?_toArray, List.getElem?_cons_succ, List.getElem?_cons_zero] at f0 f1
      clear hw hF
      simp only [Oper.wp, execOp]
      rw [e0]
      go_simp
      exact hK _ x (by first | rfl | simp) (Below.refl _ _)
    · simp only [wpOp, List.getElem?_toArray, List.getElem?_cons_succ, List.getElem?_cons_zero, Region.wanted, if_true]
      refine Or.inl ?_
      clear hw hF
      simp only [Oper.wp, execOp]
      go_simp
      refine (FR.out _).mono ?_
      rintro e y ⟨A2, c2, rfl, hd2, hbb⟩
      exact hK _ y ⟨A2, c2, rfl, hd2⟩ hbb
    · simp only [wpOp, List.getElem?_toArray, List.getElem?_cons_succ, List.getElem?_cons_zero, Region.wanted, if_true]
      refine Or.inl ?_
      have e0 : a.tmps.getD 39 undef = .agg #[.bool (decide (z1 < 0)), .slice A7 (digs z1.natAbs).length c7] := hw 0 (by kernel_rfl)
      obtain ⟨A', c', e1, hd⟩ := hw 1 (by kernel_rfl)
      have e1 : a.tmps.getD 40 undef = _ := e1
      clear hw hF
      simp only [Oper.wp, execOp]
      go_simp
      refine (zadd_d ((L12.out.step hb).get (A := A7) (c := c7) (xs := digs z1.natAbs) (by simp)) hd (Nat.le_trans LZ1.out (by omega)) (Nat.le_trans LU.out (by omega)) HZU.out).mono ?_
      rintro e y ⟨A2, c2, rfl, hd2, hbb⟩
      exact hK _ y ⟨A2, c2, rfl, hd2⟩ hbb
    · simp only [wpOp, List.getElem?_toArray, List.getElem?_cons_succ, List.getElem?_cons_zero, Region.wanted, if_true]
      refine Or.inl ?_
      obtain ⟨A', c', e0, hd⟩ := hw 2 (by kernel_rfl)
      have e0 : a.tmps.getD 41 undef = _ := e0
      clear hw hF
      simp only [Oper.wp, execOp]
      go_simp
      refine (MKhi.out _ A' c' hd (t32_live HT.out (L12.out.step hb))).mono ?_
      rintro e y ⟨A2, c2, rfl, hd2, hbb⟩
      exact hK _ y ⟨A2, c2, rfl, hd2⟩ hbb
    · simp only [wpOp, List.getElem?_toArray, List.getElem?_cons_succ, List.getElem?_cons_zero, Region.wanted, if_true]
      refine Or.inl ?_
      obtain ⟨A', c', e0, hd⟩ := hw 3 (by kernel_rfl)
      have e0 : a.eval (.tmp 42) = _ := e0
      clear hw hF
      simp only [Oper.wp, execOp]
      rw [e0]
      go_simp
      exact hK _ x ⟨A', c', rfl, hd⟩ (Below.refl _ _)
    · simp only [wpOp, List.getElem?_toArray, List.getElem?_cons_succ, List.getElem?_cons_zero, Region.wanted, if_true]
      refine Or.inl ?_
      obtain ⟨A', c', e0, hd⟩ := hw 4 (by kernel_rfl)
      have e0 : a.eval (.tmp 38) = _ := e0
      clear hw hF
      simp only [Oper.wp, execOp]
      rw [e0]
      go_simp
      exact hK _ x ⟨A', c', rfl, hd⟩ (Below.refl _ _)
    · simp only [wpOp, List.getElem?_toArray, List.getElem?_cons_succ, List.getElem?_cons_zero, Region.wanted, if_true]
      refine Or.inl ?_
      clear hw hF
      simp only [Oper.wp, execOp]
      go_simp
      exact hK _ _ ⟨_, rfl, heap_alloc_new _ _, hb.size⟩ (below1 _ _)
  · intro a x hF0 hb hR
    have hF : Fr6 [44, 39, 40, 41, 42, 38, 43, 14] _ a := hF0
    have e0 : a.tmps.getD 39 undef = .agg #[.bool (decide (z1 < 0)), .slice A7 (digs z1.natAbs).length c7] := hR 0 (by decide)
    obtain ⟨B1, d1, h1, hd1⟩ := hR 1 (by decide)
    have e1 : a.tmps.getD 40 undef = _ := h1
    obtain ⟨B2, d2, h2, hd2⟩ := hR 2 (by decide)
    have e2 : a.tmps.getD 41 undef = _ := h2
    obtain ⟨B3, d3, h3, hd3⟩ := hR 3 (by decide)
    have e3 : a.tmps.getD 42 undef = _ := h3
    obtain ⟨B4, d4, h4, hd4⟩ := hR 4 (by decide)
    have e4 : a.tmps.getD 38 undef = _ := h4
    obtain ⟨B5, d5, h5, hd5⟩ := hR 5 (by decide)
    have e5 : a.tmps.getD 43 undef = _ := h5
    obtain ⟨g7, h7, hg7, hge7⟩ := hR 7 (by decide)
    have e7 : a.tmps.getD 14 undef = _ := h7
    refine ⟨⟨?_, ?_⟩, fun hx => ?_⟩
    · rw [hF.fold (by kernel_rfl)]
      simp only [List.foldl_cons, List.foldl_nil, e0, e1, e2, e3, e4, e5, e7]
      generalize a.tmps.getD 44 undef = vx at *
      simp only [Act.put, List.setIfInBounds_toArray, List.set_cons_zero, List.set_cons_succ]
      clear e0 e1 e2 e3 e4 e5 e7 hR hF hF0 h1 h2 h3 h4 h5 h7
      obtain ⟨w13, hW⟩ : ∃ W : World, W = x := ⟨_, rfl⟩
      rw [← hW]
      rw [← hW] at hb hd1 hd2 hd3 hd4 hd5 hg7
      have L13 := Lib.hid ((((((L12.out.step hb).add hd1).add hd2).add hd3).add hd4).add hd5)
      have Rx_13 := Lib.hid (cells_of Rx_12.out hb)
      have Ry_13 := Lib.hid (cells_of Ry_12.out hb)
      have Rtx_13 := Lib.hid (cells_of Rtx_12.out hb)
      have Rty_13 := Lib.hid (cells_of Rty_12.out hb)
      have Rf_13 := Lib.hid (cells_of Rf_12.out hb)
      have Rg_13 := Lib.hid (cells_of Rg_12.out hb)
      have Rblo_13 := Lib.hid (cells_of Rblo_12.out hb)
      have Rq7_13 := Lib.hid hg7
      have Gq7 : w.heap.size ≤ g7 := Nat.le_trans L12.out.1.size hge7
      have Nxq7 : w.heap.size < g7 := by have := heap_lt Rx_12.out; omega
      have Nyq7 : w.heap.size + 1 < g7 := by have := heap_lt Ry_12.out; omega
      have Ntxq7 : w3.heap.size < g7 := by have := heap_lt Rtx_12.out; omega
      have Ntyq7 : w5.heap.size < g7 := by have := heap_lt Rty_12.out; omega
      have Nfq7 : w7.heap.size < g7 := by have := heap_lt Rf_12.out; omega
      have Ngq7 : w9.heap.size < g7 := by have := heap_lt Rg_12.out; omega
      have Nbloq7 : w11.heap.size < g7 := by have := heap_lt Rblo_12.out; omega
      clear hW hb hd1 hd2 hd3 hd4 hd5 hg7 hge7
      have fq70 := row_c (i := 0) Rq7_13.out rfl
      have zq70 := frozen_of_row _ _ 0 _ _ Rq7_13.out
      have fq71 := row_c (i := 1) Rq7_13.out rfl
      have zq71 := frozen_of_row _ _ 1 _ _ Rq7_13.out
      have fq72 := row_c (i := 2) Rq7_13.out rfl
      have zq72 := frozen_of_row _ _ 2 _ _ Rq7_13.out
      have xq7 := heap_lt Rq7_13.out
      simp only [wpOps_cons]
      simp only [wpOp, List.getElem?_toArray, List.getElem?_cons_succ, List.getElem?_cons_zero, Region.wanted, if_true]
      refine Or.inl ?_
      simp only [Oper.wp, execOp]
      go_simp
      simp only [wpOps_cons]
      simp only [wpOp, List.getElem?_toArray, List.getElem?_cons_succ, List.getElem?_cons_zero, Region.wanted, if_true]
      refine Or.inl ?_
      simp only [Oper.wp, execOp]
      go_simp
      simp only [wpOps_cons]
      simp only [wpOp, List.getElem?_toArray, List.getElem?_cons_succ, List.getElem?_cons_zero, Region.wanted, if_true]
      refine Or.inl ?_
      simp only [Oper.wp, execOp]
      go_simp
      try simp only [wpOps]
      clear fq70 zq70 fq71 zq71 fq72 zq72 xq7
      obtain ⟨w14, hW⟩ : ∃ W : World, W = (((w13.setCell ⟨g7, 0, none⟩ (.bool (decide (Mh < 0)))).setCell ⟨g7, 1, none⟩ (.slice B5 (digs Mh.natAbs).length d5)).setCell ⟨g7, 2, none⟩ (.int .i64 Eh)) := ⟨_, rfl⟩
      rw [← hW]
      have hO : Only (g7) w13 w14 := by rw [hW]; exact ((((Only.refl (g7) w13).setCell 0 _).setCell 1 _).setCell 2 _)
      have L14 := Lib.hid (live_only L13.out hO Rq7_13.out noint_dy Gq7)
      have Rx_14 := Lib.hid ((hO.block _ (by omega)).trans Rx_13.out)
      have Ry_14 := Lib.hid ((hO.block _ (by omega)).trans Ry_13.out)
      have Rtx_14 := Lib.hid ((hO.block _ (by omega)).trans Rtx_13.out)
      have Rty_14 := Lib.hid ((hO.block _ (by omega)).trans Rty_13.out)
      have Rf_14 := Lib.hid ((hO.block _ (by omega)).trans Rf_13.out)
      have Rg_14 := Lib.hid ((hO.block _ (by omega)).trans Rg_13.out)
      have Rblo_14 := Lib.hid ((hO.block _ (by omega)).trans Rblo_13.out)
      have Rq7_14 := Lib.hid (show w14.heap[g7]? = some (.cells #[.bool (decide (Mh < 0)), .slice B5 (digs Mh.natAbs).length d5, .int .i64 Eh] 26 (0, 0)) by rw [hW]; exact (heap_setCell_same _ _ 2 _ _ _ (heap_setCell_same _ _ 1 _ _ _ (heap_setCell_same _ _ 0 _ _ _ Rq7_13.out))))
      clear hW hO
      have g1 := G1.out
      have g2 := G2.out
      have g3 := G3.out
      have fblo0 := row_c (i := 0) Rblo_14.out rfl
      have zblo0 := frozen_of_row _ _ 0 _ _ Rblo_14.out
      have fblo1 := row_c (i := 1) Rblo_14.out rfl
      have zblo1 := frozen_of_row _ _ 1 _ _ Rblo_14.out
      have fblo2 := row_c (i := 2) Rblo_14.out rfl
      have zblo2 := frozen_of_row _ _ 2 _ _ Rblo_14.out
      have xblo := heap_lt Rblo_14.out
      have ftx0 := row_c (i := 0) Rtx_14.out rfl
      have ztx0 := frozen_of_row _ _ 0 _ _ Rtx_14.out
      have ftx1 := row_c (i := 1) Rtx_14.out rfl
      have ztx1 := frozen_of_row _ _ 1 _ _ Rtx_14.out
      have ftx2 := row_c (i := 2) Rtx_14.out rfl
      have ztx2 := frozen_of_row _ _ 2 _ _ Rtx_14.out
      have xtx := heap_lt Rtx_14.out
      go_wp2_with fail
      refine (dcmp_any (m := Ml) (n := mx) (x := El) (y := yx) (q := j1) (L14.out.get (A := A11) (c := c11) (xs := digs Ml.natAbs) (by simp)) (L14.out.get (A := A3) (c := c3) (xs := digs mx.natAbs) (by simp)) (Nat.le_trans Dlo.out (by omega)) (Nat.le_trans Dx.out (by omega)) Rlo.out Rx.out C1.out).mono ?_
      rintro e w15 ⟨rfl, hb⟩
      have L15 := Lib.hid (L14.out.step hb)
      clear fblo0 zblo0 fblo1 zblo1 fblo2 zblo2 xblo ftx0 ztx0 ftx1 ztx1 ftx2 ztx2 xtx
      have Rx_15 := Lib.hid (cells_of Rx_14.out hb)
      have Ry_15 := Lib.hid (cells_of Ry_14.out hb)
      have Rtx_15 := Lib.hid (cells_of Rtx_14.out hb)
      have Rty_15 := Lib.hid (cells_of Rty_14.out hb)
      have Rf_15 := Lib.hid (cells_of Rf_14.out hb)
      have Rg_15 := Lib.hid (cells_of Rg_14.out hb)
      have Rblo_15 := Lib.hid (cells_of Rblo_14.out hb)
      have Rq7_15 := Lib.hid (cells_of Rq7_14.out hb)
      clear hb 
      have ftx0 := row_c (i := 0) Rtx_15.out rfl
      have ztx0 := frozen_of_row _ _ 0 _ _ Rtx_15.out
      have ftx1 := row_c (i := 1) Rtx_15.out rfl
      have ztx1 := frozen_of_row _ _ 1 _ _ Rtx_15.out
      have ftx2 := row_c (i := 2) Rtx_15.out rfl
      have ztx2 := frozen_of_row _ _ 2 _ _ Rtx_15.out
      have xtx := heap_lt Rtx_15.out
      have fq70 := row_c (i := 0) Rq7_15.out rfl
      have zq70 := frozen_of_row _ _ 0 _ _ Rq7_15.out
      have fq71 := row_c (i := 1) Rq7_15.out rfl
      have zq71 := frozen_of_row _ _ 1 _ _ Rq7_15.out
      have fq72 := row_c (i := 2) Rq7_15.out rfl
      have zq72 := frozen_of_row _ _ 2 _ _ Rq7_15.out
      have xq7 := heap_lt Rq7_15.out
      go_wp2_with fail
      refine (dcmp_any (m := mx) (n := Mh) (x := yx) (y := Eh) (q := j2) (L15.out.get (A := A3) (c := c3) (xs := digs mx.natAbs) (by simp)) (L15.out.get (A := B5) (c := d5) (xs := digs Mh.natAbs) (by simp)) (Nat.le_trans Dx.out (by omega)) (Nat.le_trans Dhi.out (by omega)) Rx.out Rhi.out C2.out).mono ?_
      rintro e w16 ⟨rfl, hb⟩
      have L16 := Lib.hid (L15.out.step hb)
      clear ftx0 ztx0 ftx1 ztx1 ftx2 ztx2 xtx fq70 zq70 fq71 zq71 fq72 zq72 xq7
      have Rx_16 := Lib.hid (cells_of Rx_15.out hb)
      have Ry_16 := Lib.hid (cells_of Ry_15.out hb)
      have Rtx_16 := Lib.hid (cells_of Rtx_15.out hb)
      have Rty_16 := Lib.hid (cells_of Rty_15.out hb)
      have Rf_16 := Lib.hid (cells_of Rf_15.out hb)
      have Rg_16 := Lib.hid (cells_of Rg_15.out hb)
      have Rblo_16 := Lib.hid (cells_of Rblo_15.out hb)
      have Rq7_16 := Lib.hid (cells_of Rq7_15.out hb)
      clear hb 
      have ftx0 := row_c (i := 0) Rtx_16.out rfl
      have ztx0 := frozen_of_row _ _ 0 _ _ Rtx_16.out
      have ftx1 := row_c (i := 1) Rtx_16.out rfl
      have ztx1 := frozen_of_row _ _ 1 _ _ Rtx_16.out
      have ftx2 := row_c (i := 2) Rtx_16.out rfl
      have ztx2 := frozen_of_row _ _ 2 _ _ Rtx_16.out
      have xtx := heap_lt Rtx_16.out
      have fty0 := row_c (i := 0) Rty_16.out rfl
      have zty0 := frozen_of_row _ _ 0 _ _ Rty_16.out
      have fty1 := row_c (i := 1) Rty_16.out rfl
      have zty1 := frozen_of_row _ _ 1 _ _ Rty_16.out
      have fty2 := row_c (i := 2) Rty_16.out rfl
      have zty2 := frozen_of_row _ _ 2 _ _ Rty_16.out
      have xty := heap_lt Rty_16.out
      go_wp2_with fail
      refine (dcmp_any (m := mx) (n := my) (x := yx) (y := yy) (q := j3) (L16.out.get (A := A3) (c := c3) (xs := digs mx.natAbs) (by simp)) (L16.out.get (A := A5) (c := c5) (xs := digs my.natAbs) (by simp)) (Nat.le_trans Dx.out (by omega)) (Nat.le_trans Dy.out (by omega)) Rx.out Ry.out C3.out).mono ?_
      rintro e w17 ⟨rfl, hb⟩
      have L17 := Lib.hid (L16.out.step hb)
      clear ftx0 ztx0 ftx1 ztx1 ftx2 ztx2 xtx fty0 zty0 fty1 zty1 fty2 zty2 xty
      have Rx_17 := Lib.hid (cells_of Rx_16.out hb)
      have Ry_17 := Lib.hid (cells_of Ry_16.out hb)
      have Rtx_17 := Lib.hid (cells_of Rtx_16.out hb)
      have Rty_17 := Lib.hid (cells_of Rty_16.out hb)
      have Rf_17 := Lib.hid (cells_of Rf_16.out hb)
      have Rg_17 := Lib.hid (cells_of Rg_16.out hb)
      have Rblo_17 := Lib.hid (cells_of Rblo_16.out hb)
      have Rq7_17 := Lib.hid (cells_of Rq7_16.out hb)
      clear hb 
      go_wp2
      go_ret
      exact ⟨rfl, L17.out.1⟩
    · rw [hF.fold (by kernel_rfl)]
      simp only [List.foldl_cons, List.foldl_nil, e0, e1, e2, e3, e4, e5, e7]
      generalize a.tmps.getD 44 undef = vx at *
      simp only [Act.put, List.setIfInBounds_toArray, List.set_cons_zero, List.set_cons_succ]
      clear e0 e1 e2 e3 e4 e5 e7 hR hF hF0 h1 h2 h3 h4 h5 h7
      obtain ⟨w13, hW⟩ : ∃ W : World, W = x := ⟨_, rfl⟩
      rw [← hW]
      rw [← hW] at hb hd1 hd2 hd3 hd4 hd5 hg7
      have L13 := Lib.hid ((((((L12.out.step hb).add hd1).add hd2).add hd3).add hd4).add hd5)
      have Rx_13 := Lib.hid (cells_of Rx_12.out hb)
      have Ry_13 := Lib.hid (cells_of Ry_12.out hb)
      have Rtx_13 := Lib.hid (cells_of Rtx_12.out hb)
      have Rty_13 := Lib.hid (cells_of Rty_12.out hb)
      have Rf_13 := Lib.hid (cells_of Rf_12.out hb)
      have Rg_13 := Lib.hid (cells_of Rg_12.out hb)
      have Rblo_13 := Lib.hid (cells_of Rblo_12.out hb)
      have Rq7_13 := Lib.hid hg7
      have Gq7 : w.heap.size ≤ g7 := Nat.le_trans L12.out.1.size hge7
      have Nxq7 : w.heap.size < g7 := by have := heap_lt Rx_12.out; omega
      have Nyq7 : w.heap.size + 1 < g7 := by have := heap_lt Ry_12.out; omega
      have Ntxq7 : w3.heap.size < g7 := by have := heap_lt Rtx_12.out; omega
      have Ntyq7 : w5.heap.size < g7 := by have := heap_lt Rty_12.out; omega
      have Nfq7 : w7.heap.size < g7 := by have := heap_lt Rf_12.out; omega
      have Ngq7 : w9.heap.size < g7 := by have := heap_lt Rg_12.out; omega
      have Nbloq7 : w11.heap.size < g7 := by have := heap_lt Rblo_12.out; omega
      clear hW hb hd1 hd2 hd3 hd4 hd5 hg7 hge7
      have fq70 := row_c (i := 0) Rq7_13.out rfl
      have zq70 := frozen_of_row _ _ 0 _ _ Rq7_13.out
      have fq71 := row_c (i := 1) Rq7_13.out rfl
      have zq71 := frozen_of_row _ _ 1 _ _ Rq7_13.out
      have fq72 := row_c (i := 2) Rq7_13.out rfl
      have zq72 := frozen_of_row _ _ 2 _ _ Rq7_13.out
      have xq7 := heap_lt Rq7_13.out
      simp only [wpOps_cons]
      simp only [wpOp, List.getElem?_toArray, List.getElem?_cons_succ, List.getElem?_cons_zero, Region.wanted, if_true]
      refine Or.inl ?_
      simp only [Oper.wp, execOp]
      go_simp
      simp only [wpOps_cons]
      simp only [wpOp, List.getElem?_toArray, List.getElem?_cons_succ, List.getElem?_cons_zero, Region.wanted, if_true]
      refine Or.inl ?_
      simp only [Oper.wp, execOp]
      go_simp
      simp only [wpOps_cons]
      simp only [wpOp, List.getElem?_toArray, List.getElem?_cons_succ, List.getElem?_cons_zero, Region.wanted, if_true]
      refine Or.inl ?_
      simp only [Oper.wp, execOp]
      go_simp
      try simp only [wpOps]
      clear fq70 zq70 fq71 zq71 fq72 zq72 xq7
      obtain ⟨w14, hW⟩ : ∃ W : World, W = (((w13.setCell ⟨g7, 0, none⟩ (.bool (decide (Mh < 0)))).setCell ⟨g7, 1, none⟩ (.slice B5 (digs Mh.natAbs).length d5)).setCell ⟨g7, 2, none⟩ (.int .i64 Eh)) := ⟨_, rfl⟩
      rw [← hW]
      have hO : Only (g7) w13 w14 := by rw [hW]; exact ((((Only.refl (g7) w13).setCell 0 _).setCell 1 _).setCell 2 _)
      have L14 := Lib.hid (live_only L13.out hO Rq7_13.out noint_dy Gq7)
      have Rx_14 := Lib.hid ((hO.block _ (by omega)).trans Rx_13.out)
      have Ry_14 := Lib.hid ((hO.block _ (by omega)).trans Ry_13.out)
      have Rtx_14 := Lib.hid ((hO.block _ (by omega)).trans Rtx_13.out)
      have Rty_14 := Lib.hid ((hO.block _ (by omega)).trans Rty_13.out)
      have Rf_14 := Lib.hid ((hO.block _ (by omega)).trans Rf_13.out)
      have Rg_14 := Lib.hid ((hO.block _ (by omega)).trans Rg_13.out)
      have Rblo_14 := Lib.hid ((hO.block _ (by omega)).trans Rblo_13.out)
      have Rq7_14 := Lib.hid (show w14.heap[g7]? = some (.cells #[.bool (decide (Mh < 0)), .slice B5 (digs Mh.natAbs).length d5, .int .i64 Eh] 26 (0, 0)) by rw [hW]; exact (heap_setCell_same _ _ 2 _ _ _ (heap_setCell_same _ _ 1 _ _ _ (heap_setCell_same _ _ 0 _ _ _ Rq7_13.out))))
      clear hW hO
      have g1 := G1.out
      have g2 := G2.out
      have g3 := G3.out
      have fblo0 := row_c (i := 0) Rblo_14.out rfl
      have zblo0 := frozen_of_row _ _ 0 _ _ Rblo_14.out
      have fblo1 := row_c (i := 1) Rblo_14.out rfl
      have zblo1 := frozen_of_row _ _ 1 _ _ Rblo_14.out
      have fblo2 := row_c (i := 2) Rblo_14.out rfl
      have zblo2 := frozen_of_row _ _ 2 _ _ Rblo_14.out
      have xblo := heap_lt Rblo_14.out
      have ftx0 := row_c (i := 0) Rtx_14.out rfl
      have ztx0 := frozen_of_row _ _ 0 _ _ Rtx_14.out
      have ftx1 := row_c (i := 1) Rtx_14.out rfl
      have ztx1 := frozen_of_row _ _ 1 _ _ Rtx_14.out
      have ftx2 := row_c (i := 2) Rtx_14.out rfl
      have ztx2 := frozen_of_row _ _ 2 _ _ Rtx_14.out
      have xtx := heap_lt Rtx_14.out
      go_wp2_with fail
      refine (dcmp_any (m := Ml) (n := mx) (x := El) (y := yx) (q := j1) (L14.out.get (A := A11) (c := c11) (xs := digs Ml.natAbs) (by simp)) (L14.out.get (A := A3) (c := c3) (xs := digs mx.natAbs) (by simp)) (Nat.le_trans Dlo.out (by omega)) (Nat.le_trans Dx.out (by omega)) Rlo.out Rx.out C1.out).mono ?_
      rintro e w15 ⟨rfl, hb⟩
      have L15 := Lib.hid (L14.out.step hb)
      clear fblo0 zblo0 fblo1 zblo1 fblo2 zblo2 xblo ftx0 ztx0 ftx1 ztx1 ftx2 ztx2 xtx
      have Rx_15 := Lib.hid (cells_of Rx_14.out hb)
      have Ry_15 := Lib.hid (cells_of Ry_14.out hb)
      have Rtx_15 := Lib.hid (cells_of Rtx_14.out hb)
      have Rty_15 := Lib.hid (cells_of Rty_14.out hb)
      have Rf_15 := Lib.hid (cells_of Rf_14.out hb)
      have Rg_15 := Lib.hid (cells_of Rg_14.out hb)
      have Rblo_15 := Lib.hid (cells_of Rblo_14.out hb)
      have Rq7_15 := Lib.hid (cells_of Rq7_14.out hb)
      clear hb 
      have ftx0 := row_c (i := 0) Rtx_15.out rfl
      have ztx0 := frozen_of_row _ _ 0 _ _ Rtx_15.out
      have ftx1 := row_c (i := 1) Rtx_15.out rfl
      have ztx1 := frozen_of_row _ _ 1 _ _ Rtx_15.out
      have ftx2 := row_c (i := 2) Rtx_15.out rfl
      have ztx2 := frozen_of_row _ _ 2 _ _ Rtx_15.out
      have xtx := heap_lt Rtx_15.out
      have fq70 := row_c (i := 0) Rq7_15.out rfl
      have zq70 := frozen_of_row _ _ 0 _ _ Rq7_15.out
      have fq71 := row_c (i := 1) Rq7_15.out rfl
      have zq71 := frozen_of_row _ _ 1 _ _ Rq7_15.out
      have fq72 := row_c (i := 2) Rq7_15.out rfl
      have zq72 := frozen_of_row _ _ 2 _ _ Rq7_15.out
      have xq7 := heap_lt Rq7_15.out
      go_wp2_with fail
      refine (dcmp_any (m := mx) (n := Mh) (x := yx) (y := Eh) (q := j2) (L15.out.get (A := A3) (c := c3) (xs := digs mx.natAbs) (by simp)) (L15.out.get (A := B5) (c := d5) (xs := digs Mh.natAbs) (by simp)) (Nat.le_trans Dx.out (by omega)) (Nat.le_trans Dhi.out (by omega)) Rx.out Rhi.out C2.out).mono ?_
      rintro e w16 ⟨rfl, hb⟩
      have L16 := Lib.hid (L15.out.step hb)
      clear ftx0 ztx0 ftx1 ztx1 ftx2 ztx2 xtx fq70 zq70 fq71 zq71 fq72 zq72 xq7
      have Rx_16 := Lib.hid (cells_of Rx_15.out hb)
      have Ry_16 := Lib.hid (cells_of Ry_15.out hb)
      have Rtx_16 := Lib.hid (cells_of Rtx_15.out hb)
      have Rty_16 := Lib.hid (cells_of Rty_15.out hb)
      have Rf_16 := Lib.hid (cells_of Rf_15.out hb)
      have Rg_16 := Lib.hid (cells_of Rg_15.out hb)
      have Rblo_16 := Lib.hid (cells_of Rblo_15.out hb)
      have Rq7_16 := Lib.hid (cells_of Rq7_15.out hb)
      clear hb 
      have ftx0 := row_c (i := 0) Rtx_16.out rfl
      have ztx0 := frozen_of_row _ _ 0 _ _ Rtx_16.out
      have ftx1 := row_c (i := 1) Rtx_16.out rfl
      have ztx1 := frozen_of_row _ _ 1 _ _ Rtx_16.out
      have ftx2 := row_c (i := 2) Rtx_16.out rfl
      have ztx2 := frozen_of_row _ _ 2 _ _ Rtx_16.out
      have xtx := heap_lt Rtx_16.out
      have fty0 := row_c (i := 0) Rty_16.out rfl
      have zty0 := frozen_of_row _ _ 0 _ _ Rty_16.out
      have fty1 := row_c (i := 1) Rty_16.out rfl
      have zty1 := frozen_of_row _ _ 1 _ _ Rty_16.out
      have fty2 := row_c (i := 2) Rty_16.out rfl
      have zty2 := frozen_of_row _ _ 2 _ _ Rty_16.out
      have xty := heap_lt Rty_16.out
      go_wp2_with fail
      refine (dcmp_any (m := mx) (n := my) (x := yx) (y := yy) (q := j3) (L16.out.get (A := A3) (c := c3) (xs := digs mx.natAbs) (by simp)) (L16.out.get (A := A5) (c := c5) (xs := digs my.natAbs) (by simp)) (Nat.le_trans Dx.out (by omega)) (Nat.le_trans Dy.out (by omega)) Rx.out Ry.out C3.out).mono ?_
      rintro e w17 ⟨rfl, hb⟩
      have L17 := Lib.hid (L16.out.step hb)
      clear ftx0 ztx0 ftx1 ztx1 ftx2 ztx2 xtx fty0 zty0 fty1 zty1 fty2 zty2 xty
      have Rx_17 := Lib.hid (cells_of Rx_16.out hb)
      have Ry_17 := Lib.hid (cells_of Ry_16.out hb)
      have Rtx_17 := Lib.hid (cells_of Rtx_16.out hb)
      have Rty_17 := Lib.hid (cells_of Rty_16.out hb)
      have Rf_17 := Lib.hid (cells_of Rf_16.out hb)
      have Rg_17 := Lib.hid (cells_of Rg_16.out hb)
      have Rblo_17 := Lib.hid (cells_of Rblo_16.out hb)
      have Rq7_17 := Lib.hid (cells_of Rq7_16.out hb)
      clear hb 
      go_wp2
      go_ret
      exact ⟨rfl, L17.out.1⟩
    · have e6 : a.tmps.getD 44 undef = .bool true := hx
      rw [hF.fold (by kernel_rfl)]
      simp only [List.foldl_cons, List.foldl_nil, e0, e1, e2, e3, e4, e5, e7, e6]
      simp only [Act.put, List.setIfInBounds_toArray, List.set_cons_zero, List.set_cons_succ]
      clear e0 e1 e2 e3 e4 e5 e7 e6 hR hF hF0 h1 h2 h3 h4 h5 h7 hx
      obtain ⟨w13, hW⟩ : ∃ W : World, W = x := ⟨_, rfl⟩
      rw [← hW]
      rw [← hW] at hb hd1 hd2 hd3 hd4 hd5 hg7
      have L13 := Lib.hid ((((((L12.out.step hb).add hd1).add hd2).add hd3).add hd4).add hd5)
      have Rx_13 := Lib.hid (cells_of Rx_12.out hb)
      have Ry_13 := Lib.hid (cells_of Ry_12.out hb)
      have Rtx_13 := Lib.hid (cells_of Rtx_12.out hb)
      have Rty_13 := Lib.hid (cells_of Rty_12.out hb)
      have Rf_13 := Lib.hid (cells_of Rf_12.out hb)
      have Rg_13 := Lib.hid (cells_of Rg_12.out hb)
      have Rblo_13 := Lib.hid (cells_of Rblo_12.out hb)
      have Rq7_13 := Lib.hid hg7
      have Gq7 : w.heap.size ≤ g7 := Nat.le_trans L12.out.1.size hge7
      have Nxq7 : w.heap.size < g7 := by have := heap_lt Rx_12.out; omega
      have Nyq7 : w.heap.size + 1 < g7 := by have := heap_lt Ry_12.out; omega
      have Ntxq7 : w3.heap.size < g7 := by have := heap_lt Rtx_12.out; omega
      have Ntyq7 : w5.heap.size < g7 := by have := heap_lt Rty_12.out; omega
      have Nfq7 : w7.heap.size < g7 := by have := heap_lt Rf_12.out; omega
      have Ngq7 : w9.heap.size < g7 := by have := heap_lt Rg_12.out; omega
      have Nbloq7 : w11.heap.size < g7 := by have := heap_lt Rblo_12.out; omega
      clear hW hb hd1 hd2 hd3 hd4 hd5 hg7 hge7
      have fq70 := row_c (i := 0) Rq7_13.out rfl
      have zq70 := frozen_of_row _ _ 0 _ _ Rq7_13.out
      have fq71 := row_c (i := 1) Rq7_13.out rfl
      have zq71 := frozen_of_row _ _ 1 _ _ Rq7_13.out
      have fq72 := row_c (i := 2) Rq7_13.out rfl
      have zq72 := frozen_of_row _ _ 2 _ _ Rq7_13.out
      have xq7 := heap_lt Rq7_13.out
      simp only [wpOps_cons]
      simp only [wpOp, List.getElem?_toArray, List.getElem?_cons_succ, List.getElem?_cons_zero, Region.wanted, if_true]
      refine Or.inl ?_
      simp only [Oper.wp, execOp]
      go_simp
      simp only [wpOps_cons]
      simp only [wpOp, List.getElem?_toArray, List.getElem?_cons_succ, List.getElem?_cons_zero, Region.wanted, if_true]
      refine Or.inl ?_
      simp only [Oper.wp, execOp]
      go_simp
      try simp only [wpOps]
      clear fq70 zq70 fq71 zq71 fq72 zq72 xq7
      obtain ⟨w14, hW⟩ : ∃ W : World, W = (((w13.setCell ⟨g7, 0, none⟩ (.bool (decide (Mh < 0)))).setCell ⟨g7, 1, none⟩ (.slice B5 (digs Mh.natAbs).length d5)).setCell ⟨g7, 2, none⟩ (.int .i64 Eh)) := ⟨_, rfl⟩
      rw [← hW]
      have hO : Only (g7) w13 w14 := by rw [hW]; exact ((((Only.refl (g7) w13).setCell 0 _).setCell 1 _).setCell 2 _)
      have L14 := Lib.hid (live_only L13.out hO Rq7_13.out noint_dy Gq7)
      have Rx_14 := Lib.hid ((hO.block _ (by omega)).trans Rx_13.out)
      have Ry_14 := Lib.hid ((hO.block _ (by omega)).trans Ry_13.out)
      have Rtx_14 := Lib.hid ((hO.block _ (by omega)).trans Rtx_13.out)
      have Rty_14 := Lib.hid ((hO.block _ (by omega)).trans Rty_13.out)
      have Rf_14 := Lib.hid ((hO.block _ (by omega)).trans Rf_13.out)
      have Rg_14 := Lib.hid ((hO.block _ (by omega)).trans Rg_13.out)
      have Rblo_14 := Lib.hid ((hO.block _ (by omega)).trans Rblo_13.out)
      have Rq7_14 := Lib.hid (show w14.heap[g7]? = some (.cells #[.bool (decide (Mh < 0)), .slice B5 (digs Mh.natAbs).length d5, .int .i64 Eh] 26 (0, 0)) by rw [hW]; exact (heap_setCell_same _ _ 2 _ _ _ (heap_setCell_same _ _ 1 _ _ _ (heap_setCell_same _ _ 0 _ _ _ Rq7_13.out))))
      clear hW hO
      have g1 := G1.out
      have g2 := G2.out
      have g3 := G3.out
      have fblo0 := row_c (i := 0) Rblo_14.out rfl
      have zblo0 := frozen_of_row _ _ 0 _ _ Rblo_14.out
      have fblo1 := row_c (i := 1) Rblo_14.out rfl
      have zblo1 := frozen_of_row _ _ 1 _ _ Rblo_14.out
      have fblo2 := row_c (i := 2) Rblo_14.out rfl
      have zblo2 := frozen_of_row _ _ 2 _ _ Rblo_14.out
      have xblo := heap_lt Rblo_14.out
      have ftx0 := row_c (i := 0) Rtx_14.out rfl
      have ztx0 := frozen_of_row _ _ 0 _ _ Rtx_14.out
      have ftx1 := row_c (i := 1) Rtx_14.out rfl
      have ztx1 := frozen_of_row _ _ 1 _ _ Rtx_14.out
      have ftx2 := row_c (i := 2) Rtx_14.out rfl
      have ztx2 := frozen_of_row _ _ 2 _ _ Rtx_14.out
      have xtx := heap_lt Rtx_14.out
      go_wp2_with fail
      refine (dcmp_any (m := Ml) (n := mx) (x := El) (y := yx) (q := j1) (L14.out.get (A := A11) (c := c11) (xs := digs Ml.natAbs) (by simp)) (L14.out.get (A := A3) (c := c3) (xs := digs mx.natAbs) (by simp)) (Nat.le_trans Dlo.out (by omega)) (Nat.le_trans Dx.out (by omega)) Rlo.out Rx.out C1.out).mono ?_
      rintro e w15 ⟨rfl, hb⟩
      have L15 := Lib.hid (L14.out.step hb)
      clear fblo0 zblo0 fblo1 zblo1 fblo2 zblo2 xblo ftx0 ztx0 ftx1 ztx1 ftx2 ztx2 xtx
      have Rx_15 := Lib.hid (cells_of Rx_14.out hb)
      have Ry_15 := Lib.hid (cells_of Ry_14.out hb)
      have Rtx_15 := Lib.hid (cells_of Rtx_14.out hb)
      have Rty_15 := Lib.hid (cells_of Rty_14.out hb)
      have Rf_15 := Lib.hid (cells_of Rf_14.out hb)
      have Rg_15 := Lib.hid (cells_of Rg_14.out hb)
      have Rblo_15 := Lib.hid (cells_of Rblo_14.out hb)
      have Rq7_15 := Lib.hid (cells_of Rq7_14.out hb)
      clear hb 
      have ftx0 := row_c (i := 0) Rtx_15.out rfl
      have ztx0 := frozen_of_row _ _ 0 _ _ Rtx_15.out
      have ftx1 := row_c (i := 1) Rtx_15.out rfl
      have ztx1 := frozen_of_row _ _ 1 _ _ Rtx_15.out
      have ftx2 := row_c (i := 2) Rtx_15.out rfl
      have ztx2 := frozen_of_row _ _ 2 _ _ Rtx_15.out
      have xtx := heap_lt Rtx_15.out
      have fq70 := row_c (i := 0) Rq7_15.out rfl
      have zq70 := frozen_of_row _ _ 0 _ _ Rq7_15.out
      have fq71 := row_c (i := 1) Rq7_15.out rfl
      have zq71 := frozen_of_row _ _ 1 _ _ Rq7_15.out
      have fq72 := row_c (i := 2) Rq7_15.out rfl
      have zq72 := frozen_of_row _ _ 2 _ _ Rq7_15.out
      have xq7 := heap_lt Rq7_15.out
      go_wp2_with fail
      refine (dcmp_any (m := mx) (n := Mh) (x := yx) (y := Eh) (q := j2) (L15.out.get (A := A3) (c := c3) (xs := digs mx.natAbs) (by simp)) (L15.out.get (A := B5) (c := d5) (xs := digs Mh.natAbs) (by simp)) (Nat.le_trans Dx.out (by omega)) (Nat.le_trans Dhi.out (by omega)) Rx.out Rhi.out C2.out).mono ?_
      rintro e w16 ⟨rfl, hb⟩
      have L16 := Lib.hid (L15.out.step hb)
      clear ftx0 ztx0 ftx1 ztx1 ftx2 ztx2 xtx fq70 zq70 fq71 zq71 fq72 zq72 xq7
      have Rx_16 := Lib.hid (cells_of Rx_15.out hb)
      have Ry_16 := Lib.hid (cells_of Ry_15.out hb)
      have Rtx_16 := Lib.hid (cells_of Rtx_15.out hb)
      have Rty_16 := Lib.hid (cells_of Rty_15.out hb)
      have Rf_16 := Lib.hid (cells_of Rf_15.out hb)
      have Rg_16 := Lib.hid (cells_of Rg_15.out hb)
      have Rblo_16 := Lib.hid (cells_of Rblo_15.out hb)
      have Rq7_16 := Lib.hid (cells_of Rq7_15.out hb)
      clear hb 
      have ftx0 := row_c (i := 0) Rtx_16.out rfl
      have ztx0 := frozen_of_row _ _ 0 _ _ Rtx_16.out
      have ftx1 := row_c (i := 1) Rtx_16.out rfl
      have ztx1 := frozen_of_row _ _ 1 _ _ Rtx_16.out
      have ftx2 := row_c (i := 2) Rtx_16.out rfl
      have ztx2 := frozen_of_row _ _ 2 _ _ Rtx_16.out
      have xtx := heap_lt Rtx_16.out
      have fty0 := row_c (i := 0) Rty_16.out rfl
      have zty0 := frozen_of_row _ _ 0 _ _ Rty_16.out
      have fty1 := row_c (i := 1) Rty_16.out rfl
      have zty1 := frozen_of_row _ _ 1 _ _ Rty_16.out
      have fty2 := row_c (i := 2) Rty_16.out rfl
      have zty2 := frozen_of_row _ _ 2 _ _ Rty_16.out
      have xty := heap_lt Rty_16.out
      go_wp2_with fail
      refine (dcmp_any (m := mx) (n := my) (x := yx) (y := yy) (q := j3) (L16.out.get (A := A3) (c := c3) (xs := digs mx.natAbs) (by simp)) (L16.out.get (A := A5) (c := c5) (xs := digs my.natAbs) (by simp)) (Nat.le_trans Dx.out (by omega)) (Nat.le_trans Dy.out (by omega)) Rx.out Ry.out C3.out).mono ?_
      rintro e w17 ⟨rfl, hb⟩
      have L17 := Lib.hid (L16.out.step hb)
      clear ftx0 ztx0 ftx1 ztx1 ftx2 ztx2 xtx fty0 zty0 fty1 zty1 fty2 zty2 xty
      have Rx_17 := Lib.hid (cells_of Rx_16.out hb)
      have Ry_17 := Lib.hid (cells_of Ry_16.out hb)
      have Rtx_17 := Lib.hid (cells_of Rtx_16.out hb)
      have Rty_17 := Lib.hid (cells_of Rty_16.out hb)
      have Rf_17 := Lib.hid (cells_of Rf_16.out hb)
      have Rg_17 := Lib.hid (cells_of Rg_16.out hb)
      have Rblo_17 := Lib.hid (cells_of Rblo_16.out hb)
      have Rq7_17 := Lib.hid (cells_of Rq7_16.out hb)
      clear hb 
      go_wp2
      go_ret
      exact ⟨rfl, L17.out.1⟩

set_option maxHeartbeats 8000000 in
set_option maxRecDepth 100000 in
theorem dyadFloors_e  (Ax : Option Addr) (cx : Nat) (sx : Bool) (xsx : List Nat) (ex : Int) (Ay : Option Addr) (cy : Nat) (sy : Bool) (xsy : List Nat) (ey : Int) (w : World)  (hx : Dg w Ax cx xsx) (lx : xsx.length ≤ 9223372036854775807) (ex0 : -9223372036854775808 ≤ ex) (ex1 : ex ≤ 9223372036854775807) (hy : Dg w Ay cy xsy) (ly : xsy.length ≤ 9223372036854775807) (ey0 : -9223372036854775808 ≤ ey) (ey1 : ey ≤ 9223372036854775807) (hT : T32 w) (c1 : ¬ 0 < cmpd (dv (nm (sg sx (val (xsx.take 6)))) (nx (sg sx (val (xsx.take 6))) (tameE ex))) (dv (nm (sg sy (val (xsy.take 6)))) (nx (sg sy (val (xsy.take 6))) (tameE ey)))):
    Calls Tryd.prog 10 #[.agg #[.bool sx, .slice Ax xsx.length cx, .int .i64 ex], .agg #[.bool sy, .slice Ay xsy.length cy, .int .i64 ey]] w fun e w' => e = .returned (.bool true) ∧ Below w.heap.size w w' := by
  obtain ⟨mx, hmx⟩ : ∃ m, nm (sg sx (val (xsx.take 6))) = m := ⟨_, rfl⟩
  obtain ⟨yx, hyx⟩ : ∃ m, nx (sg sx (val (xsx.take 6))) (tameE ex) = m := ⟨_, rfl⟩
  have tx : Tm mx yx := hmx ▸ hyx ▸ tame_tm hx.2.1
  have bx := tx.bd
  have HMx := Lib.hid hmx
  have HYx := Lib.hid hyx
  have LXx := Lib.hid lx
  have E0x := Lib.hid ex0
  have E1x := Lib.hid ex1
  have Rx := Lib.hid tx.rt
  have Ix := Lib.hid tx.inR
  have Dx := Lib.hid (inr_len tx.inR)
  obtain ⟨my, hmy⟩ : ∃ m, nm (sg sy (val (xsy.take 6))) = m := ⟨_, rfl⟩
  obtain ⟨yy, hyy⟩ : ∃ m, nx (sg sy (val (xsy.take 6))) (tameE ey) = m := ⟨_, rfl⟩
  have ty : Tm my yy := hmy ▸ hyy ▸ tame_tm hy.2.1
  skip
  have HMy := Lib.hid hmy
  have HYy := Lib.hid hyy
  have LXy := Lib.hid ly
  have E0y := Lib.hid ey0
  have E1y := Lib.hid ey1
  have Ry := Lib.hid ty.rt
  have Iy := Lib.hid ty.inR
  have Dy := Lib.hid (inr_len ty.inR)
  rw [hmx, hyx, hmy, hyy] at c1
  have byy := ty.bd
  obtain ⟨KF, hKF⟩ : ∃ K : Nat, K = 493 := ⟨_, rfl⟩
  have ebx : -300 ≤ yx ∧ yx ≤ 492 := by
    by_cases h0 : mx = 0
    · have := nf_zero tx.1 h0; omega
    · have := tx.2.2 h0; omega
  have YAx := Lib.hid (show -100000 ≤ yx by omega)
  have YBx := Lib.hid (show yx ≤ 100000 by omega)
  obtain ⟨z1, hz1⟩ : ∃ z, flo mx yx = z := ⟨_, rfl⟩
  have fb1 := flo_bd (m := mx) (x := yx)
  have fs1 := flo_size hKF (m := mx) (x := yx) tx.2.1 (by by_cases h0 : mx = 0; exact .inl h0; exact .inr (tx.2.2 h0).2)
  rw [hz1] at fb1 fs1
  have bz1 : bl z1 ≤ KF := blen_le fs1
  have lz1 : (digs z1.natAbs).length ≤ 20 := by have := len_bl z1; omega
  have LZ1 := Lib.hid lz1
  have HZ1 := Lib.hid hz1
  have eby : -300 ≤ yy ∧ yy ≤ 492 := by
    by_cases h0 : my = 0
    · have := nf_zero ty.1 h0; omega
    · have := ty.2.2 h0; omega
  have YAy := Lib.hid (show -100000 ≤ yy by omega)
  have YBy := Lib.hid (show yy ≤ 100000 by omega)
  obtain ⟨z2, hz2⟩ : ∃ z, flo my yy = z := ⟨_, rfl⟩
  have fb2 := flo_bd (m := my) (x := yy)
  have fs2 := flo_size hKF (m := my) (x := yy) ty.2.1 (by by_cases h0 : my = 0; exact .inl h0; exact .inr (ty.2.2 h0).2)
  rw [hz2] at fb2 fs2
  have bz2 : bl z2 ≤ KF := blen_le fs2
  have lz2 : (digs z2.natAbs).length ≤ 20 := by have := len_bl z2; omega
  have LZ2 := Lib.hid lz2
  have HZ2 := Lib.hid hz2
  obtain ⟨un, hu⟩ : ∃ u : Int, u = 1 := ⟨_, rfl⟩
  have FR : ∀ W, Calls Tryd.prog 50 #[.int .i64 1] W fun e w' => Zr un W e w' := fun W => by subst hu; exact zfrom_any 1 W (by omega) (by omega)
  have FR := Lib.hid FR
  have LU := Lib.hid (show (digs un.natAbs).length ≤ 2 from digs_small (by omega))
  obtain ⟨zu, hzu⟩ : ∃ z, z1 + un = z := ⟨_, rfl⟩
  have HZU := Lib.hid hzu
  have fsu : zu.natAbs < 2 ^ (KF + 1) := Nat.lt_of_le_of_lt (show zu.natAbs ≤ 2 ^ KF by omega) (Nat.pow_lt_pow_right (by omega) (by omega))
  have bzu : bl zu ≤ KF + 1 := blen_le fsu
  have lzu : (digs zu.natAbs).length ≤ 20 := by have := len_bl zu; omega
  obtain ⟨Ml, El, i1⟩ := isD_ex z1 0
  have b1 := Bd.of (m := z1) (e := 0) (L := 0) (H := 500) (by omega) (by omega) i1
  obtain ⟨Mh, Eh, i2⟩ := isD_ex zu 0
  have b2 := Bd.of (m := zu) (e := 0) (L := 0) (H := 500) (by omega) (by omega) i2
  have Rlo := Lib.hid (Bd.rt b1 (by omega) (by omega))
  have Ilo := Lib.hid (Bd.inR b1 (by omega) (by omega))
  have Dlo := Lib.hid (inr_len Ilo.out)
  have Rhi := Lib.hid (Bd.rt b2 (by omega) (by omega))
  have Ihi := Lib.hid (Bd.inR b2 (by omega) (by omega))
  have Dhi := Lib.hid (inr_len Ihi.out)
  have MKlo := Lib.hid (fun W A c (hW : Dg W A c (digs z1.natAbs)) hT => make_yes A c (decide (z1 < 0)) (digs z1.natAbs) 0 Ml El W hW (by omega) hT (by omega) (by omega) (by rw [sg_dz]; exact i1.of.1) (by rw [sg_dz]; exact i1.of.2) Ilo.out)
  have MKhi := Lib.hid (fun W A c (hW : Dg W A c (digs zu.natAbs)) hT => make_yes A c (decide (zu < 0)) (digs zu.natAbs) 0 Mh Eh W hW (by omega) hT (by omega) (by omega) (by rw [sg_dz]; exact i2.of.1) (by rw [sg_dz]; exact i2.of.2) Ihi.out)
  obtain ⟨j1, hj1⟩ : ∃ c, cmpd (dv Ml El) (dv mx yx) = c := ⟨_, rfl⟩
  obtain ⟨j2, hj2⟩ : ∃ c, cmpd (dv mx yx) (dv Mh Eh) = c := ⟨_, rfl⟩
  obtain ⟨j3, hj3⟩ : ∃ c, cmpd (dv mx yx) (dv my yy) = c := ⟨_, rfl⟩
  have g1 : decide (j1 ≤ 0) = true := by rw [decide_eq_true_eq, ← hj1]; refine cmpd_le.2 ?_; rw [i1.2]; exact fb1.1
  have g2 : decide (j2 < 0) = true := by rw [decide_eq_true_eq, ← hj2]; refine cmpd_lt'.2 ?_; rw [i2.2, ← hzu, hu]; exact fb1.2
  rw [hj3] at c1
  have g3 : decide (0 < j3) = false := by simp; omega
  have G1 := Lib.hid g1
  have G2 := Lib.hid g2
  have G3 := Lib.hid g3
  have C1 := Lib.hid hj1
  have C2 := Lib.hid hj2
  have C3 := Lib.hid hj3
  obtain ⟨k4, hk4⟩ : ∃ k, Int.sign (z1 - z2) = k := ⟨_, rfl⟩
  have C4 := Lib.hid hk4
  have G4 := Lib.hid (show decide (k4 ≤ 0) = true by
    rw [decide_eq_true_eq, ← hk4]
    rw [← hj3] at c1
    have := flo_mono (cmpd_le.1 (Int.not_lt.1 c1))
    rw [hz1, hz2] at this
    have h5 := Int.sign_nonpos_iff (x := z1 - z2)
    exact h5.2 (by omega))
  have HT := Lib.hid hT
  clear hT
  have L0 := Lib.hid (((live_start w).add hx).add hy)
  clear hx lx ex0 ex1 hmx hyx tx bx hy ly ey0 ey1 hmy hyy ty byy c1 ebx eby hz1 hz2 fb1 fb2 fs1 fs2 bz1 bz2 lz1 lz2 hu hzu fsu bzu lzu hKF i1 b1 i2 b2 hj1 hj2 hj3 g1 g2 g3 hk4
  go_enter Tryd.func10, Tryd.ntmps10
  go_wp2_with fail
  obtain ⟨v1, hW⟩ : ∃ W : World, W = ((w.alloc (.cells #[.bool sx, .slice Ax xsx.length cx, .int .i64 ex] 26)).alloc (.cells #[.bool sy, .slice Ay xsy.length cy, .int .i64 ey] 26)) := ⟨_, rfl⟩
  rw [← hW]
  have hb : Below w.heap.size w v1 := by rw [hW]; exact (((Below.refl _ _).alloc (by simp <;> omega) _).alloc (by simp <;> omega) _)
  have L1 := Lib.hid (L0.out.step hb)
  have Rx_1 := Lib.hid (show v1.heap[w.heap.size]? = some (.cells #[.bool sx, .slice Ax xsx.length cx, .int .i64 ex] 26 (0, 0)) by rw [hW]; have := heap_alloc_new w (.cells #[.bool sx, .slice Ax xsx.length cx, .int .i64 ex] 26); rw [heap_alloc_old _ _ (by simp <;> omega)]; simpa using this)
  have Gx : w.heap.size ≤ w.heap.size := by have := L0.out.1.size; omega
  have Ry_1 := Lib.hid (show v1.heap[w.heap.size + 1]? = some (.cells #[.bool sy, .slice Ay xsy.length cy, .int .i64 ey] 26 (0, 0)) by rw [hW]; have := heap_alloc_new (w.alloc (.cells #[.bool sx, .slice Ax xsx.length cx, .int .i64 ex] 26)) (.cells #[.bool sy, .slice Ay xsy.length cy, .int .i64 ey] 26); simpa using this)
  have Gy : w.heap.size ≤ w.heap.size + 1 := by have := L0.out.1.size; omega
  have Nxy : w.heap.size < w.heap.size + 1 := by omega
  clear hW hb
  refine (dexamples_any _ (t32_live HT.out L1.out)).mono ?_
  rintro e w2 ⟨rfl, hb⟩
  have L2 := Lib.hid (L1.out.step hb)
  have Rx_2 := Lib.hid (cells_of Rx_1.out hb)
  have Ry_2 := Lib.hid (cells_of Ry_1.out hb)
  clear hb 
  have fx0 := row_c (i := 0) Rx_2.out rfl
  have zx0 := frozen_of_row _ _ 0 _ _ Rx_2.out
  have fx1 := row_c (i := 1) Rx_2.out rfl
  have zx1 := frozen_of_row _ _ 1 _ _ Rx_2.out
  have fx2 := row_c (i := 2) Rx_2.out rfl
  have zx2 := frozen_of_row _ _ 2 _ _ Rx_2.out
  have xx := heap_lt Rx_2.out
  go_wp2_with fail
  refine (tame_any (M := mx) (E := yx) (L2.out.get (A := Ax) (c := cx) (xs := xsx) (by simp)) (t32_live HT.out L2.out) LXx.out E0x.out E1x.out HMx.out HYx.out).mono ?_
  rintro e w3 ⟨A3, c3, rfl, hd, hb⟩
  have L3 := Lib.hid ((L2.out.step hb).add hd)
  clear fx0 zx0 fx1 zx1 fx2 zx2 xx
  have Rx_3 := Lib.hid (cells_of Rx_2.out hb)
  have Ry_3 := Lib.hid (cells_of Ry_2.out hb)
  clear hb hd
  have fy0 := row_c (i := 0) Ry_3.out rfl
  have zy0 := frozen_of_row _ _ 0 _ _ Ry_3.out
  have fy1 := row_c (i := 1) Ry_3.out rfl
  have zy1 := frozen_of_row _ _ 1 _ _ Ry_3.out
  have fy2 := row_c (i := 2) Ry_3.out rfl
  have zy2 := frozen_of_row _ _ 2 _ _ Ry_3.out
  have xy := heap_lt Ry_3.out
  go_wp2_with fail
  obtain ⟨w4, hW⟩ : ∃ W : World, W = (w3.alloc (.cells #[.bool (decide (mx < 0)), .slice A3 (digs mx.natAbs).length c3, .int .i64 yx] 26)) := ⟨_, rfl⟩
  rw [← hW]
  have hb : Below w3.heap.size w3 w4 := by rw [hW]; exact ((Below.refl _ _).alloc (by simp <;> omega) _)
  have L4 := Lib.hid (L3.out.step hb)
  have Rx_4 := Lib.hid (cells_of Rx_3.out hb)
  have Ry_4 := Lib.hid (cells_of Ry_3.out hb)
  have Rtx_4 := Lib.hid (show w4.heap[w3.heap.size]? = some (.cells #[.bool (decide (mx < 0)), .slice A3 (digs mx.natAbs).length c3, .int .i64 yx] 26 (0, 0)) by rw [hW]; have := heap_alloc_new w3 (.cells #[.bool (decide (mx < 0)), .slice A3 (digs mx.natAbs).length c3, .int .i64 yx] 26); simpa using this)
  have Gtx : w.heap.size ≤ w3.heap.size := by have := L3.out.1.size; omega
  have Nxtx : w.heap.size < w3.heap.size := by have := heap_lt Rx_3.out; omega
  have Nytx : w.heap.size + 1 < w3.heap.size := by have := heap_lt Ry_3.out; omega
  clear hW hb
  clear fy0 zy0 fy1 zy1 fy2 zy2 xy
  refine (tame_any (M := my) (E := yy) (L4.out.get (A := Ay) (c := cy) (xs := xsy) (by simp)) (t32_live HT.out L4.out) LXy.out E0y.out E1y.out HMy.out HYy.out).mono ?_
  rintro e w5 ⟨A5, c5, rfl, hd, hb⟩
  have L5 := Lib.hid ((L4.out.step hb).add hd)
  have Rx_5 := Lib.hid (cells_of Rx_4.out hb)
  have Ry_5 := Lib.hid (cells_of Ry_4.out hb)
  have Rtx_5 := Lib.hid (cells_of Rtx_4.out hb)
  clear hb hd
  have ftx0 := row_c (i := 0) Rtx_5.out rfl
  have ztx0 := frozen_of_row _ _ 0 _ _ Rtx_5.out
  have ftx1 := row_c (i := 1) Rtx_5.out rfl
  have ztx1 := frozen_of_row _ _ 1 _ _ Rtx_5.out
  have ftx2 := row_c (i := 2) Rtx_5.out rfl
  have ztx2 := frozen_of_row _ _ 2 _ _ Rtx_5.out
  have xtx := heap_lt Rtx_5.out
  go_wp2_with fail
  obtain ⟨w6, hW⟩ : ∃ W : World, W = (w5.alloc (.cells #[.bool (decide (my < 0)), .slice A5 (digs my.natAbs).length c5, .int .i64 yy] 26)) := ⟨_, rfl⟩
  rw [← hW]
  have hb : Below w5.heap.size w5 w6 := by rw [hW]; exact ((Below.refl _ _).alloc (by simp <;> omega) _)
  have L6 := Lib.hid (L5.out.step hb)
  have Rx_6 := Lib.hid (cells_of Rx_5.out hb)
  have Ry_6 := Lib.hid (cells_of Ry_5.out hb)
  have Rtx_6 := Lib.hid (cells_of Rtx_5.out hb)
  have Rty_6 := Lib.hid (show w6.heap[w5.heap.size]? = some (.cells #[.bool (decide (my < 0)), .slice A5 (digs my.natAbs).length c5, .int .i64 yy] 26 (0, 0)) by rw [hW]; have := heap_alloc_new w5 (.cells #[.bool (decide (my < 0)), .slice A5 (digs my.natAbs).length c5, .int .i64 yy] 26); simpa using this)
  have Gty : w.heap.size ≤ w5.heap.size := by have := L5.out.1.size; omega
  have Nxty : w.heap.size < w5.heap.size := by have := heap_lt Rx_5.out; omega
  have Nyty : w.heap.size + 1 < w5.heap.size := by have := heap_lt Ry_5.out; omega
  have Ntxty : w3.heap.size < w5.heap.size := by have := heap_lt Rtx_5.out; omega
  clear hW hb
  clear ftx0 ztx0 ftx1 ztx1 ftx2 ztx2 xtx
  refine (floor_yes A3 c3 mx yx z1 _ (L6.out.get (A := A3) (c := c3) (xs := digs mx.natAbs) (by simp)) Dx.out Rx.out Ix.out YAx.out YBx.out HZ1.out).mono ?_
  rintro e w7 ⟨A7, c7, rfl, hd, hb⟩
  have L7 := Lib.hid ((L6.out.step hb).add hd)
  have Rx_7 := Lib.hid (cells_of Rx_6.out hb)
  have Ry_7 := Lib.hid (cells_of Ry_6.out hb)
  have Rtx_7 := Lib.hid (cells_of Rtx_6.out hb)
  have Rty_7 := Lib.hid (cells_of Rty_6.out hb)
  clear hb hd
  have fty0 := row_c (i := 0) Rty_7.out rfl
  have zty0 := frozen_of_row _ _ 0 _ _ Rty_7.out
  have fty1 := row_c (i := 1) Rty_7.out rfl
  have zty1 := frozen_of_row _ _ 1 _ _ Rty_7.out
  have fty2 := row_c (i := 2) Rty_7.out rfl
  have zty2 := frozen_of_row _ _ 2 _ _ Rty_7.out
  have xty := heap_lt Rty_7.out
  go_wp2_with fail
  obtain ⟨w8, hW⟩ : ∃ W : World, W = (w7.alloc (.cells #[.bool (decide (z1 < 0)), .slice A7 (digs z1.natAbs).length c7] 24)) := ⟨_, rfl⟩
  rw [← hW]
  have hb : Below w7.heap.size w7 w8 := by rw [hW]; exact ((Below.refl _ _).alloc (by simp <;> omega) _)
  have L8 := Lib.hid (L7.out.step hb)
  have Rx_8 := Lib.hid (cells_of Rx_7.out hb)
  have Ry_8 := Lib.hid (cells_of Ry_7.out hb)
  have Rtx_8 := Lib.hid (cells_of Rtx_7.out hb)
  have Rty_8 := Lib.hid (cells_of Rty_7.out hb)
  have Rf_8 := Lib.hid (show w8.heap[w7.heap.size]? = some (.cells #[.bool (decide (z1 < 0)), .slice A7 (digs z1.natAbs).length c7] 24 (0, 0)) by rw [hW]; have := heap_alloc_new w7 (.cells #[.bool (decide (z1 < 0)), .slice A7 (digs z1.natAbs).length c7] 24); simpa using this)
  have Gf : w.heap.size ≤ w7.heap.size := by have := L7.out.1.size; omega
  have Nxf : w.heap.size < w7.heap.size := by have := heap_lt Rx_7.out; omega
  have Nyf : w.heap.size + 1 < w7.heap.size := by have := heap_lt Ry_7.out; omega
  have Ntxf : w3.heap.size < w7.heap.size := by have := heap_lt Rtx_7.out; omega
  have Ntyf : w5.heap.size < w7.heap.size := by have := heap_lt Rty_7.out; omega
  clear hW hb
  clear fty0 zty0 fty1 zty1 fty2 zty2 xty
  refine (floor_yes A5 c5 my yy z2 _ (L8.out.get (A := A5) (c := c5) (xs := digs my.natAbs) (by simp)) Dy.out Ry.out Iy.out YAy.out YBy.out HZ2.out).mono ?_
  rintro e w9 ⟨A9, c9, rfl, hd, hb⟩
  have L9 := Lib.hid ((L8.out.step hb).add hd)
  have Rx_9 := Lib.hid (cells_of Rx_8.out hb)
  have Ry_9 := Lib.hid (cells_of Ry_8.out hb)
  have Rtx_9 := Lib.hid (cells_of Rtx_8.out hb)
  have Rty_9 := Lib.hid (cells_of Rty_8.out hb)
  have Rf_9 := Lib.hid (cells_of Rf_8.out hb)
  clear hb hd
  have ff0 := row_c (i := 0) Rf_9.out rfl
  have zf0 := frozen_of_row _ _ 0 _ _ Rf_9.out
  have ff1 := row_c (i := 1) Rf_9.out rfl
  have zf1 := frozen_of_row _ _ 1 _ _ Rf_9.out
  have xf := heap_lt Rf_9.out
  go_wp2_with fail
  obtain ⟨w10, hW⟩ : ∃ W : World, W = (w9.alloc (.cells #[.bool (decide (z2 < 0)), .slice A9 (digs z2.natAbs).length c9] 24)) := ⟨_, rfl⟩
  rw [← hW]
  have hb : Below w9.heap.size w9 w10 := by rw [hW]; exact ((Below.refl _ _).alloc (by simp <;> omega) _)
  have L10 := Lib.hid (L9.out.step hb)
  have Rx_10 := Lib.hid (cells_of Rx_9.out hb)
  have Ry_10 := Lib.hid (cells_of Ry_9.out hb)
  have Rtx_10 := Lib.hid (cells_of Rtx_9.out hb)
  have Rty_10 := Lib.hid (cells_of Rty_9.out hb)
  have Rf_10 := Lib.hid (cells_of Rf_9.out hb)
  have Rg_10 := Lib.hid (show w10.heap[w9.heap.size]? = some (.cells #[.bool (decide (z2 < 0)), .slice A9 (digs z2.natAbs).length c9] 24 (0, 0)) by rw [hW]; have := heap_alloc_new w9 (.cells #[.bool (decide (z2 < 0)), .slice A9 (digs z2.natAbs).length c9] 24); simpa using this)
  have Gg : w.heap.size ≤ w9.heap.size := by have := L9.out.1.size; omega
  have Nxg : w.heap.size < w9.heap.size := by have := heap_lt Rx_9.out; omega
  have Nyg : w.heap.size + 1 < w9.heap.size := by have := heap_lt Ry_9.out; omega
  have Ntxg : w3.heap.size < w9.heap.size := by have := heap_lt Rtx_9.out; omega
  have Ntyg : w5.heap.size < w9.heap.size := by have := heap_lt Rty_9.out; omega
  have Nfg : w7.heap.size < w9.heap.size := by have := heap_lt Rf_9.out; omega
  clear hW hb
  clear ff0 zf0 ff1 zf1 xf
  refine (MKlo.out _ A7 c7 (L10.out.get (A := A7) (c := c7) (xs := digs z1.natAbs) (by simp)) (t32_live HT.out L10.out)).mono ?_
  rintro e w11 ⟨A11, c11, rfl, hd, hb⟩
  have L11 := Lib.hid ((L10.out.step hb).add hd)
  have Rx_11 := Lib.hid (cells_of Rx_10.out hb)
  have Ry_11 := Lib.hid (cells_of Ry_10.out hb)
  have Rtx_11 := Lib.hid (cells_of Rtx_10.out hb)
  have Rty_11 := Lib.hid (cells_of Rty_10.out hb)
  have Rf_11 := Lib.hid (cells_of Rf_10.out hb)
  have Rg_11 := Lib.hid (cells_of Rg_10.out hb)
  clear hb hd
  go_wp2_with fail
  obtain ⟨w12, hW⟩ : ∃ W : World, W = (w11.alloc (.cells #[.bool (decide (Ml < 0)), .slice A11 (digs Ml.natAbs).length c11, .int .i64 El] 26)) := ⟨_, rfl⟩
  rw [← hW]
  have hb : Below w11.heap.size w11 w12 := by rw [hW]; exact ((Below.refl _ _).alloc (by simp <;> omega) _)
  have L12 := Lib.hid (L11.out.step hb)
  have Rx_12 := Lib.hid (cells_of Rx_11.out hb)
  have Ry_12 := Lib.hid (cells_of Ry_11.out hb)
  have Rtx_12 := Lib.hid (cells_of Rtx_11.out hb)
  have Rty_12 := Lib.hid (cells_of Rty_11.out hb)
  have Rf_12 := Lib.hid (cells_of Rf_11.out hb)
  have Rg_12 := Lib.hid (cells_of Rg_11.out hb)
  have Rblo_12 := Lib.hid (show w12.heap[w11.heap.size]? = some (.cells #[.bool (decide (Ml < 0)), .slice A11 (digs Ml.natAbs).length c11, .int .i64 El] 26 (0, 0)) by rw [hW]; have := heap_alloc_new w11 (.cells #[.bool (decide (Ml < 0)), .slice A11 (digs Ml.natAbs).length c11, .int .i64 El] 26); simpa using this)
  have Gblo : w.heap.size ≤ w11.heap.size := by have := L11.out.1.size; omega
  have Nxblo : w.heap.size < w11.heap.size := by have := heap_lt Rx_11.out; omega
  have Nyblo : w.heap.size + 1 < w11.heap.size := by have := heap_lt Ry_11.out; omega
  have Ntxblo : w3.heap.size < w11.heap.size := by have := heap_lt Rtx_11.out; omega
  have Ntyblo : w5.heap.size < w11.heap.size := by have := heap_lt Rty_11.out; omega
  have Nfblo : w7.heap.size < w11.heap.size := by have := heap_lt Rf_11.out; omega
  have Ngblo : w9.heap.size < w11.heap.size := by have := heap_lt Rg_11.out; omega
  clear hW hb
  refine wp_operands_late (W := w12) rfl 6 8 9 [0, 1, 2, 3, 4, 5, 7] [39, 40, 41, 42, 38, 43, 44, 14] (fun i u ww => match i with | 6 => u = .bool true | 0 => u = .agg #[.bool (decide (z1 < 0)), .slice A7 (digs z1.natAbs).length c7] | 1 => ∃ A c, u = .agg #[.bool (decide (un < 0)), .slice A (digs un.natAbs).length c] ∧ Dg ww A c (digs un.natAbs) | 2 => ∃ A c, u = .agg #[.bool (decide (zu < 0)), .slice A (digs zu.natAbs).length c] ∧ Dg ww A c (digs zu.natAbs) | 3 => ∃ A c, u = .tuple #[.agg #[.bool (decide (Mh < 0)), .slice A (digs Mh.natAbs).length c, .int .i64 Eh], .bool true] ∧ Dg ww A c (digs Mh.natAbs) | 4 => ∃ A c, u = .tuple #[.agg #[.bool (decide (Mh < 0)), .slice A (digs Mh.natAbs).length c, .int .i64 Eh], .bool true] ∧ Dg ww A c (digs Mh.natAbs) | 5 => ∃ A c, u = .agg #[.bool (decide (Mh < 0)), .slice A (digs Mh.natAbs).length c, .int .i64 Eh] ∧ Dg ww A c (digs Mh.natAbs) | 7 => ∃ g, u = .pointer (some ⟨g, 0, none⟩) ∧ ww.heap[g]? = some (.cells #[.bool false, .slice none 0 0, .int .i64 0] 26 (0, 0)) ∧ w12.heap.size ≤ g | _ => True)
    (by kernel_rfl) (by kernel_rfl) (by decide) (by kernel_rfl) (by kernel_rfl) (by kernel_rfl) (by decide) (by kernel_rfl) (by kernel_rfl) (by kernel_rfl) (by kernel_rfl) (by kernel_rfl) (by kernel_rfl) (by kernel_rfl) (by kernel_rfl) ?_ ?_ ?_
  · intro i u x y hi h hb
    have hi' : i = 6 ∨ i = 0 ∨ i = 1 ∨ i = 2 ∨ i = 3 ∨ i = 4 ∨ i = 5 ∨ i = 7 := by simpa using hi
    rcases hi' with rfl | rfl | rfl | rfl | rfl | rfl | rfl | rfl
    · exact h
    · exact h
    · obtain ⟨A, c, e, hd⟩ := h
      exact ⟨A, c, e, hd.below hb⟩
    · obtain ⟨A, c, e, hd⟩ := h
      exact ⟨A, c, e, hd.below hb⟩
    · obtain ⟨A, c, e, hd⟩ := h
      exact ⟨A, c, e, hd.below hb⟩
    · obtain ⟨A, c, e, hd⟩ := h
      exact ⟨A, c, e, hd.below hb⟩
    · obtain ⟨A, c, e, hd⟩ := h
      exact ⟨A, c, e, hd.below hb⟩
    · obtain ⟨g, e, hg, hge⟩ := h
      exact ⟨g, e, cells_of hg hb, hge⟩
  · intro i a x KK hi hF hb hw hK
    have hi' : i = 6 ∨ i = 0 ∨ i = 1 ∨ i = 2 ∨ i = 3 ∨ i = 4 ∨ i = 5 ∨ i = 7 := by simpa using hi
    rcases hi' with rfl | rfl | rfl | rfl | rfl | rfl | rfl | rfl
    · simp only [wpOp, List.getElem?_toArray, List.getElem?_cons_succ, List.getElem?_cons_zero, Region.wanted, if_true]
      refine Or.inl ?_
      obtain ⟨A', c', e0, hd⟩ := hw 4 (by kernel_rfl)
      have e0 : a.eval (.tmp 38) = _ := e0
      clear hw hF
      simp only [Oper.wp, execOp]
      rw [e0]
      go_simp
      exact hK _ x (by first | rfl | simp) (Below.refl _ _)
    · simp only [wpOp, List.getElem?_toArray, List.getElem?_cons_zero, Region.wanted, if_true]
      refine Or.inl ?_
      have e0 : a.eval (.tmp 8) = .pointer (some ⟨w7.heap.size, 0, none⟩) := hF.2.2 8 (by decide)
      have f0 := row_cell Rf_12.out hb 0
      have f1 := row_cell Rf_12.out hb 1
      simp only [List.getElem?_toArray, List.getElem?_cons_succ, List.getElem?_cons_zero] at f0 f1
      clear hw hF
      simp only [Oper.wp, execOp]
      rw [e0]
      go_simp
      exact hK _ x (by first | rfl | simp) (Below.refl _ _)
    · simp only [wpOp, List.getElem?_toArray, List.getElem?_cons_succ, List.getElem?_cons_zero, Region.wanted, if_true]
      refine Or.inl ?_
      clear hw hF
      simp only [Oper.wp, execOp]
      go_simp
      refine (FR.out _).mono ?_
      rintro e y ⟨A2, c2, rfl, hd2, hbb⟩
      exact hK _ y ⟨A2, c2, rfl, hd2⟩ hbb
    · simp only [wpOp, List.getElem?_toArray, List.getElem?_cons_succ, List.getElem?_cons_zero, Region.wanted, if_true]
      refine Or.inl ?_
      have e0 : a.tmps.getD 39 undef = .agg #[.bool (decide (z1 < 0)), .slice A7 (digs z1.natAbs).length c7] := hw 0 (by kernel_rfl)
      obtain ⟨A', c', e1, hd⟩ := hw 1 (by kernel_rfl)
      have e1 : a.tmps.getD 40 undef = _ := e1
      clear hw hF
      simp only [Oper.wp, execOp]
      go_simp
      refine (zadd_d ((L12.out.step hb).get (A := A7) (c := c7) (xs := digs z1.natAbs) (by simp)) hd (Nat.le_trans LZ1.out (by omega)) (Nat.le_trans LU.out (by omega)) HZU.out).mono ?_
      rintro e y ⟨A2, c2, rfl, hd2, hbb⟩
      exact hK _ y ⟨A2, c2, rfl, hd2⟩ hbb
    · simp only [wpOp, List.getElem?_toArray, List.getElem?_cons_succ, List.getElem?_cons_zero, Region.wanted, if_true]
      refine Or.inl ?_
      obtain ⟨A', c', e0, hd⟩ := hw 2 (by kernel_rfl)
      have e0 : a.tmps.getD 41 undef = _ := e0
      clear hw hF
      simp only [Oper.wp, execOp]
      go_simp
      refine (MKhi.out _ A' c' hd (t32_live HT.out (L12.out.step hb))).mono ?_
      rintro e y ⟨A2, c2, rfl, hd2, hbb⟩
      exact hK _ y ⟨A2, c2, rfl, hd2⟩ hbb
    · simp only [wpOp, List.getElem?_toArray, List.getElem?_cons_succ, List.getElem?_cons_zero, Region.wanted, if_true]
      refine Or.inl ?_
      obtain ⟨A', c', e0, hd⟩ := hw 3 (by kernel_rfl)
      have e0 : a.eval (.tmp 42) = _ := e0
      clear hw hF
      simp only [Oper.wp, execOp]
      rw [e0]
      go_simp
      exact hK _ x ⟨A', c', rfl, hd⟩ (Below.refl _ _)
    · simp only [wpOp, List.getElem?_toArray, List.getElem?_cons_succ, List.getElem?_cons_zero, Region.wanted, if_true]
      refine Or.inl ?_
      obtain ⟨A', c', e0, hd⟩ := hw 4 (by kernel_rfl)
      have e0 : a.eval (.tmp 38) = _ := e0
      clear hw hF
      simp only [Oper.wp, execOp]
      rw [e0]
      go_simp
      exact hK _ x ⟨A', c', rfl, hd⟩ (Below.refl _ _)
    · simp only [wpOp, List.getElem?_toArray, List.getElem?_cons_succ, List.getElem?_cons_zero, Region.wanted, if_true]
      refine Or.inl ?_
      clear hw hF
      simp only [Oper.wp, execOp]
      go_simp
      exact hK _ _ ⟨_, rfl, heap_alloc_new _ _, hb.size⟩ (below1 _ _)
  · intro a x hF0 hb hR
    have hF : Fr6 [44, 39, 40, 41, 42, 38, 43, 14] _ a := hF0
    have e0 : a.tmps.getD 39 undef = .agg #[.bool (decide (z1 < 0)), .slice A7 (digs z1.natAbs).length c7] := hR 0 (by decide)
    obtain ⟨B1, d1, h1, hd1⟩ := hR 1 (by decide)
    have e1 : a.tmps.getD 40 undef = _ := h1
    obtain ⟨B2, d2, h2, hd2⟩ := hR 2 (by decide)
    have e2 : a.tmps.getD 41 undef = _ := h2
    obtain ⟨B3, d3, h3, hd3⟩ := hR 3 (by decide)
    have e3 : a.tmps.getD 42 undef = _ := h3
    obtain ⟨B4, d4, h4, hd4⟩ := hR 4 (by decide)
    have e4 : a.tmps.getD 38 undef = _ := h4
    obtain ⟨B5, d5, h5, hd5⟩ := hR 5 (by decide)
    have e5 : a.tmps.getD 43 undef = _ := h5
    obtain ⟨g7, h7, hg7, hge7⟩ := hR 7 (by decide)
    have e7 : a.tmps.getD 14 undef = _ := h7
    refine ⟨⟨?_, ?_⟩, fun hx => ?_⟩
    · rw [hF.fold (by kernel_rfl)]
      simp only [List.foldl_cons, List.foldl_nil, e0, e1, e2, e3, e4, e5, e7]
      generalize a.tmps.getD 44 undef = vx at *
      simp only [Act.put, List.setIfInBounds_toArray, List.set_cons_zero, List.set_cons_succ]
      clear e0 e1 e2 e3 e4 e5 e7 hR hF hF0 h1 h2 h3 h4 h5 h7
      obtain ⟨w13, hW⟩ : ∃ W : World, W = x := ⟨_, rfl⟩
      rw [← hW]
      rw [← hW] at hb hd1 hd2 hd3 hd4 hd5 hg7
      have L13 := Lib.hid ((((((L12.out.step hb).add hd1).add hd2).add hd3).add hd4).add hd5)
      have Rx_13 := Lib.hid (cells_of Rx_12.out hb)
      have Ry_13 := Lib.hid (cells_of Ry_12.out hb)
      have Rtx_13 := Lib.hid (cells_of Rtx_12.out hb)
      have Rty_13 := Lib.hid (cells_of Rty_12.out hb)
      have Rf_13 := Lib.hid (cells_of Rf_12.out hb)
      have Rg_13 := Lib.hid (cells_of Rg_12.out hb)
      have Rblo_13 := Lib.hid (cells_of Rblo_12.out hb)
      have Rq7_13 := Lib.hid hg7
      have Gq7 : w.heap.size ≤ g7 := Nat.le_trans L12.out.1.size hge7
      have Nxq7 : w.heap.size < g7 := by have := heap_lt Rx_12.out; omega
      have Nyq7 : w.heap.size + 1 < g7 := by have := heap_lt Ry_12.out; omega
      have Ntxq7 : w3.heap.size < g7 := by have := heap_lt Rtx_12.out; omega
      have Ntyq7 : w5.heap.size < g7 := by have := heap_lt Rty_12.out; omega
      have Nfq7 : w7.heap.size < g7 := by have := heap_lt Rf_12.out; omega
      have Ngq7 : w9.heap.size < g7 := by have := heap_lt Rg_12.out; omega
      have Nbloq7 : w11.heap.size < g7 := by have := heap_lt Rblo_12.out; omega
      clear hW hb hd1 hd2 hd3 hd4 hd5 hg7 hge7
      have fq70 := row_c (i := 0) Rq7_13.out rfl
      have zq70 := frozen_of_row _ _ 0 _ _ Rq7_13.out
      have fq71 := row_c (i := 1) Rq7_13.out rfl
      have zq71 := frozen_of_row _ _ 1 _ _ Rq7_13.out
      have fq72 := row_c (i := 2) Rq7_13.out rfl
      have zq72 := frozen_of_row _ _ 2 _ _ Rq7_13.out
      have xq7 := heap_lt Rq7_13.out
      simp only [wpOps_cons]
      simp only [wpOp, List.getElem?_toArray, List.getElem?_cons_succ, List.getElem?_cons_zero, Region.wanted, if_true]
      refine Or.inl ?_
      simp only [Oper.wp, execOp]
      go_simp
      simp only [wpOps_cons]
      simp only [wpOp, List.getElem?_toArray, List.getElem?_cons_succ, List.getElem?_cons_zero, Region.wanted, if_true]
      refine Or.inl ?_
      simp only [Oper.wp, execOp]
      go_simp
      simp only [wpOps_cons]
      simp only [wpOp, List.getElem?_toArray, List.getElem?_cons_succ, List.getElem?_cons_zero, Region.wanted, if_true]
      refine Or.inl ?_
      simp only [Oper.wp, execOp]
      go_simp
      try simp only [wpOps]
      clear fq70 zq70 fq71 zq71 fq72 zq72 xq7
      obtain ⟨w14, hW⟩ : ∃ W : World, W = (((w13.setCell ⟨g7, 0, none⟩ (.bool (decide (Mh < 0)))).setCell ⟨g7, 1, none⟩ (.slice B5 (digs Mh.natAbs).length d5)).setCell ⟨g7, 2, none⟩ (.int .i64 Eh)) := ⟨_, rfl⟩
      rw [← hW]
      have hO : Only (g7) w13 w14 := by rw [hW]; exact ((((Only.refl (g7) w13).setCell 0 _).setCell 1 _).setCell 2 _)
      have L14 := Lib.hid (live_only L13.out hO Rq7_13.out noint_dy Gq7)
      have Rx_14 := Lib.hid ((hO.block _ (by omega)).trans Rx_13.out)
      have Ry_14 := Lib.hid ((hO.block _ (by omega)).trans Ry_13.out)
      have Rtx_14 := Lib.hid ((hO.block _ (by omega)).trans Rtx_13.out)
      have Rty_14 := Lib.hid ((hO.block _ (by omega)).trans Rty_13.out)
      have Rf_14 := Lib.hid ((hO.block _ (by omega)).trans Rf_13.out)
      have Rg_14 := Lib.hid ((hO.block _ (by omega)).trans Rg_13.out)
      have Rblo_14 := Lib.hid ((hO.block _ (by omega)).trans Rblo_13.out)
      have Rq7_14 := Lib.hid (show w14.heap[g7]? = some (.cells #[.bool (decide (Mh < 0)), .slice B5 (digs Mh.natAbs).length d5, .int .i64 Eh] 26 (0, 0)) by rw [hW]; exact (heap_setCell_same _ _ 2 _ _ _ (heap_setCell_same _ _ 1 _ _ _ (heap_setCell_same _ _ 0 _ _ _ Rq7_13.out))))
      clear hW hO
      have g1 := G1.out
      have g2 := G2.out
      have g3 := G3.out
      have g4 := G4.out
      have fblo0 := row_c (i := 0) Rblo_14.out rfl
      have zblo0 := frozen_of_row _ _ 0 _ _ Rblo_14.out
      have fblo1 := row_c (i := 1) Rblo_14.out rfl
      have zblo1 := frozen_of_row _ _ 1 _ _ Rblo_14.out
      have fblo2 := row_c (i := 2) Rblo_14.out rfl
      have zblo2 := frozen_of_row _ _ 2 _ _ Rblo_14.out
      have xblo := heap_lt Rblo_14.out
      have ftx0 := row_c (i := 0) Rtx_14.out rfl
      have ztx0 := frozen_of_row _ _ 0 _ _ Rtx_14.out
      have ftx1 := row_c (i := 1) Rtx_14.out rfl
      have ztx1 := frozen_of_row _ _ 1 _ _ Rtx_14.out
      have ftx2 := row_c (i := 2) Rtx_14.out rfl
      have ztx2 := frozen_of_row _ _ 2 _ _ Rtx_14.out
      have xtx := heap_lt Rtx_14.out
      go_wp2_with fail
      refine (dcmp_any (m := Ml) (n := mx) (x := El) (y := yx) (q := j1) (L14.out.get (A := A11) (c := c11) (xs := digs Ml.natAbs) (by simp)) (L14.out.get (A := A3) (c := c3) (xs := digs mx.natAbs) (by simp)) (Nat.le_trans Dlo.out (by omega)) (Nat.le_trans Dx.out (by omega)) Rlo.out Rx.out C1.out).mono ?_
      rintro e w15 ⟨rfl, hb⟩
      have L15 := Lib.hid (L14.out.step hb)
      clear fblo0 zblo0 fblo1 zblo1 fblo2 zblo2 xblo ftx0 ztx0 ftx1 ztx1 ftx2 ztx2 xtx
      have Rx_15 := Lib.hid (cells_of Rx_14.out hb)
      have Ry_15 := Lib.hid (cells_of Ry_14.out hb)
      have Rtx_15 := Lib.hid (cells_of Rtx_14.out hb)
      have Rty_15 := Lib.hid (cells_of Rty_14.out hb)
      have Rf_15 := Lib.hid (cells_of Rf_14.out hb)
      have Rg_15 := Lib.hid (cells_of Rg_14.out hb)
      have Rblo_15 := Lib.hid (cells_of Rblo_14.out hb)
      have Rq7_15 := Lib.hid (cells_of Rq7_14.out hb)
      clear hb 
      have ftx0 := row_c (i := 0) Rtx_15.out rfl
      have ztx0 := frozen_of_row _ _ 0 _ _ Rtx_15.out
      have ftx1 := row_c (i := 1) Rtx_15.out rfl
      have ztx1 := frozen_of_row _ _ 1 _ _ Rtx_15.out
      have ftx2 := row_c (i := 2) Rtx_15.out rfl
      have ztx2 := frozen_of_row _ _ 2 _ _ Rtx_15.out
      have xtx := heap_lt Rtx_15.out
      have fq70 := row_c (i := 0) Rq7_15.out rfl
      have zq70 := frozen_of_row _ _ 0 _ _ Rq7_15.out
      have fq71 := row_c (i := 1) Rq7_15.out rfl
      have zq71 := frozen_of_row _ _ 1 _ _ Rq7_15.out
      have fq72 := row_c (i := 2) Rq7_15.out rfl
      have zq72 := frozen_of_row _ _ 2 _ _ Rq7_15.out
      have xq7 := heap_lt Rq7_15.out
      go_wp2_with fail
      refine (dcmp_any (m := mx) (n := Mh) (x := yx) (y := Eh) (q := j2) (L15.out.get (A := A3) (c := c3) (xs := digs mx.natAbs) (by simp)) (L15.out.get (A := B5) (c := d5) (xs := digs Mh.natAbs) (by simp)) (Nat.le_trans Dx.out (by omega)) (Nat.le_trans Dhi.out (by omega)) Rx.out Rhi.out C2.out).mono ?_
      rintro e w16 ⟨rfl, hb⟩
      have L16 := Lib.hid (L15.out.step hb)
      clear ftx0 ztx0 ftx1 ztx1 ftx2 ztx2 xtx fq70 zq70 fq71 zq71 fq72 zq72 xq7
      have Rx_16 := Lib.hid (cells_of Rx_15.out hb)
      have Ry_16 := Lib.hid (cells_of Ry_15.out hb)
      have Rtx_16 := Lib.hid (cells_of Rtx_15.out hb)
      have Rty_16 := Lib.hid (cells_of Rty_15.out hb)
      have Rf_16 := Lib.hid (cells_of Rf_15.out hb)
      have Rg_16 := Lib.hid (cells_of Rg_15.out hb)
      have Rblo_16 := Lib.hid (cells_of Rblo_15.out hb)
      have Rq7_16 := Lib.hid (cells_of Rq7_15.out hb)
      clear hb 
      have ftx0 := row_c (i := 0) Rtx_16.out rfl
      have ztx0 := frozen_of_row _ _ 0 _ _ Rtx_16.out
      have ftx1 := row_c (i := 1) Rtx_16.out rfl
      have ztx1 := frozen_of_row _ _ 1 _ _ Rtx_16.out
      have ftx2 := row_c (i := 2) Rtx_16.out rfl
      have ztx2 := frozen_of_row _ _ 2 _ _ Rtx_16.out
      have xtx := heap_lt Rtx_16.out
      have fty0 := row_c (i := 0) Rty_16.out rfl
      have zty0 := frozen_of_row _ _ 0 _ _ Rty_16.out
      have fty1 := row_c (i := 1) Rty_16.out rfl
      have zty1 := frozen_of_row _ _ 1 _ _ Rty_16.out
      have fty2 := row_c (i := 2) Rty_16.out rfl
      have zty2 := frozen_of_row _ _ 2 _ _ Rty_16.out
      have xty := heap_lt Rty_16.out
      go_wp2_with fail
      refine (dcmp_any (m := mx) (n := my) (x := yx) (y := yy) (q := j3) (L16.out.get (A := A3) (c := c3) (xs := digs mx.natAbs) (by simp)) (L16.out.get (A := A5) (c := c5) (xs := digs my.natAbs) (by simp)) (Nat.le_trans Dx.out (by omega)) (Nat.le_trans Dy.out (by omega)) Rx.out Ry.out C3.out).mono ?_
      rintro e w17 ⟨rfl, hb⟩
      have L17 := Lib.hid (L16.out.step hb)
      clear ftx0 ztx0 ftx1 ztx1 ftx2 ztx2 xtx fty0 zty0 fty1 zty1 fty2 zty2 xty
      have Rx_17 := Lib.hid (cells_of Rx_16.out hb)
      have Ry_17 := Lib.hid (cells_of Ry_16.out hb)
      have Rtx_17 := Lib.hid (cells_of Rtx_16.out hb)
      have Rty_17 := Lib.hid (cells_of Rty_16.out hb)
      have Rf_17 := Lib.hid (cells_of Rf_16.out hb)
      have Rg_17 := Lib.hid (cells_of Rg_16.out hb)
      have Rblo_17 := Lib.hid (cells_of Rblo_16.out hb)
      have Rq7_17 := Lib.hid (cells_of Rq7_16.out hb)
      clear hb 
      have ff0 := row_c (i := 0) Rf_17.out rfl
      have zf0 := frozen_of_row _ _ 0 _ _ Rf_17.out
      have ff1 := row_c (i := 1) Rf_17.out rfl
      have zf1 := frozen_of_row _ _ 1 _ _ Rf_17.out
      have xf := heap_lt Rf_17.out
      have fg0 := row_c (i := 0) Rg_17.out rfl
      have zg0 := frozen_of_row _ _ 0 _ _ Rg_17.out
      have fg1 := row_c (i := 1) Rg_17.out rfl
      have zg1 := frozen_of_row _ _ 1 _ _ Rg_17.out
      have xg := heap_lt Rg_17.out
      go_wp2_with fail
      refine (zcmp_d (L17.out.get (A := A7) (c := c7) (xs := digs z1.natAbs) (by simp)) (L17.out.get (A := A9) (c := c9) (xs := digs z2.natAbs) (by simp)) (Nat.le_trans LZ1.out (by omega)) (Nat.le_trans LZ2.out (by omega)) C4.out).mono ?_
      rintro e w18 ⟨rfl, hb⟩
      have L18 := Lib.hid (L17.out.step hb)
      clear ff0 zf0 ff1 zf1 xf fg0 zg0 fg1 zg1 xg
      have Rx_18 := Lib.hid (cells_of Rx_17.out hb)
      have Ry_18 := Lib.hid (cells_of Ry_17.out hb)
      have Rtx_18 := Lib.hid (cells_of Rtx_17.out hb)
      have Rty_18 := Lib.hid (cells_of Rty_17.out hb)
      have Rf_18 := Lib.hid (cells_of Rf_17.out hb)
      have Rg_18 := Lib.hid (cells_of Rg_17.out hb)
      have Rblo_18 := Lib.hid (cells_of Rblo_17.out hb)
      have Rq7_18 := Lib.hid (cells_of Rq7_17.out hb)
      clear hb 
      go_wp2
      go_ret
      exact ⟨rfl, L18.out.1⟩
    · rw [hF.fold (by kernel_rfl)]
      simp only [List.foldl_cons, List.foldl_nil, e0, e1, e2, e3, e4, e5, e7]
      generalize a.tmps.getD 44 undef = vx at *
      simp only [Act.put, List.setIfInBounds_toArray, List.set_cons_zero, List.set_cons_succ]
      clear e0 e1 e2 e3 e4 e5 e7 hR hF hF0 h1 h2 h3 h4 h5 h7
      obtain ⟨w13, hW⟩ : ∃ W : World, W = x := ⟨_, rfl⟩
      rw [← hW]
      rw [← hW] at hb hd1 hd2 hd3 hd4 hd5 hg7
      have L13 := Lib.hid ((((((L12.out.step hb).add hd1).add hd2).add hd3).add hd4).add hd5)
      have Rx_13 := Lib.hid (cells_of Rx_12.out hb)
      have Ry_13 := Lib.hid (cells_of Ry_12.out hb)
      have Rtx_13 := Lib.hid (cells_of Rtx_12.out hb)
      have Rty_13 := Lib.hid (cells_of Rty_12.out hb)
      have Rf_13 := Lib.hid (cells_of Rf_12.out hb)
      have Rg_13 := Lib.hid (cells_of Rg_12.out hb)
      have Rblo_13 := Lib.hid (cells_of Rblo_12.out hb)
      have Rq7_13 := Lib.hid hg7
      have Gq7 : w.heap.size ≤ g7 := Nat.le_trans L12.out.1.size hge7
      have Nxq7 : w.heap.size < g7 := by have := heap_lt Rx_12.out; omega
      have Nyq7 : w.heap.size + 1 < g7 := by have := heap_lt Ry_12.out; omega
      have Ntxq7 : w3.heap.size < g7 := by have := heap_lt Rtx_12.out; omega
      have Ntyq7 : w5.heap.size < g7 := by have := heap_lt Rty_12.out; omega
      have Nfq7 : w7.heap.size < g7 := by have := heap_lt Rf_12.out; omega
      have Ngq7 : w9.heap.size < g7 := by have := heap_lt Rg_12.out; omega
      have Nbloq7 : w11.heap.size < g7 := by have := heap_lt Rblo_12.out; omega
      clear hW hb hd1 hd2 hd3 hd4 hd5 hg7 hge7
      have fq70 := row_c (i := 0) Rq7_13.out rfl
      have zq70 := frozen_of_row _ _ 0 _ _ Rq7_13.out
      have fq71 := row_c (i := 1) Rq7_13.out rfl
      have zq71 := frozen_of_row _ _ 1 _ _ Rq7_13.out
      have fq72 := row_c (i := 2) Rq7_13.out rfl
      have zq72 := frozen_of_row _ _ 2 _ _ Rq7_13.out
      have xq7 := heap_lt Rq7_13.out
      simp only [wpOps_cons]
      simp only [wpOp, List.getElem?_toArray, List.getElem?_cons_succ, List.getElem?_cons_zero, Region.wanted, if_true]
      refine Or.inl ?_
      simp only [Oper.wp, execOp]
      go_simp
      simp only [wpOps_cons]
      simp only [wpOp, List.getElem?_toArray, List.getElem?_cons_succ, List.getElem?_cons_zero, Region.wanted, if_true]
      refine Or.inl ?_
      simp only [Oper.wp, execOp]
      go_simp
      simp only [wpOps_cons]
      simp only [wpOp, List.getElem?_toArray, List.getElem?_cons_succ, List.getElem?_cons_zero, Region.wanted, if_true]
      refine Or.inl ?_
      simp only [Oper.wp, execOp]
      go_simp
      try simp only [wpOps]
      clear fq70 zq70 fq71 zq71 fq72 zq72 xq7
      obtain ⟨w14, hW⟩ : ∃ W : World, W = (((w13.setCell ⟨g7, 0, none⟩ (.bool (decide (Mh < 0)))).setCell ⟨g7, 1, none⟩ (.slice B5 (digs Mh.natAbs).length d5)).setCell ⟨g7, 2, none⟩ (.int .i64 Eh)) := ⟨_, rfl⟩
      rw [← hW]
      have hO : Only (g7) w13 w14 := by rw [hW]; exact ((((Only.refl (g7) w13).setCell 0 _).setCell 1 _).setCell 2 _)
      have L14 := Lib.hid (live_only L13.out hO Rq7_13.out noint_dy Gq7)
      have Rx_14 := Lib.hid ((hO.block _ (by omega)).trans Rx_13.out)
      have Ry_14 := Lib.hid ((hO.block _ (by omega)).trans Ry_13.out)
      have Rtx_14 := Lib.hid ((hO.block _ (by omega)).trans Rtx_13.out)
      have Rty_14 := Lib.hid ((hO.block _ (by omega)).trans Rty_13.out)
      have Rf_14 := Lib.hid ((hO.block _ (by omega)).trans Rf_13.out)
      have Rg_14 := Lib.hid ((hO.block _ (by omega)).trans Rg_13.out)
      have Rblo_14 := Lib.hid ((hO.block _ (by omega)).trans Rblo_13.out)
      have Rq7_14 := Lib.hid (show w14.heap[g7]? = some (.cells #[.bool (decide (Mh < 0)), .slice B5 (digs Mh.natAbs).length d5, .int .i64 Eh] 26 (0, 0)) by rw [hW]; exact (heap_setCell_same _ _ 2 _ _ _ (heap_setCell_same _ _ 1 _ _ _ (heap_setCell_same _ _ 0 _ _ _ Rq7_13.out))))
      clear hW hO
      have g1 := G1.out
      have g2 := G2.out
      have g3 := G3.out
      have g4 := G4.out
      have fblo0 := row_c (i := 0) Rblo_14.out rfl
      have zblo0 := frozen_of_row _ _ 0 _ _ Rblo_14.out
      have fblo1 := row_c (i := 1) Rblo_14.out rfl
      have zblo1 := frozen_of_row _ _ 1 _ _ Rblo_14.out
      have fblo2 := row_c (i := 2) Rblo_14.out rfl
      have zblo2 := frozen_of_row _ _ 2 _ _ Rblo_14.out
      have xblo := heap_lt Rblo_14.out
      have ftx0 := row_c (i := 0) Rtx_14.out rfl
      have ztx0 := frozen_of_row _ _ 0 _ _ Rtx_14.out
      have ftx1 := row_c (i := 1) Rtx_14.out rfl
      have ztx1 := frozen_of_row _ _ 1 _ _ Rtx_14.out
      have ftx2 := row_c (i := 2) Rtx_14.out rfl
      have ztx2 := frozen_of_row _ _ 2 _ _ Rtx_14.out
      have xtx := heap_lt Rtx_14.out
      go_wp2_with fail
      refine (dcmp_any (m := Ml) (n := mx) (x := El) (y := yx) (q := j1) (L14.out.get (A := A11) (c := c11) (xs := digs Ml.natAbs) (by simp)) (L14.out.get (A := A3) (c := c3) (xs := digs mx.natAbs) (by simp)) (Nat.le_trans Dlo.out (by omega)) (Nat.le_trans Dx.out (by omega)) Rlo.out Rx.out C1.out).mono ?_
      rintro e w15 ⟨rfl, hb⟩
      have L15 := Lib.hid (L14.out.step hb)
      clear fblo0 zblo0 fblo1 zblo1 fblo2 zblo2 xblo ftx0 ztx0 ftx1 ztx1 ftx2 ztx2 xtx
      have Rx_15 := Lib.hid (cells_of Rx_14.out hb)
      have Ry_15 := Lib.hid (cells_of Ry_14.out hb)
      have Rtx_15 := Lib.hid (cells_of Rtx_14.out hb)
      have Rty_15 := Lib.hid (cells_of Rty_14.out hb)
      have Rf_15 := Lib.hid (cells_of Rf_14.out hb)
      have Rg_15 := Lib.hid (cells_of Rg_14.out hb)
      have Rblo_15 := Lib.hid (cells_of Rblo_14.out hb)
      have Rq7_15 := Lib.hid (cells_of Rq7_14.out hb)
      clear hb 
      have ftx0 := row_c (i := 0) Rtx_15.out rfl
      have ztx0 := frozen_of_row _ _ 0 _ _ Rtx_15.out
      have ftx1 := row_c (i := 1) Rtx_15.out rfl
      have ztx1 := frozen_of_row _ _ 1 _ _ Rtx_15.out
      have ftx2 := row_c (i := 2) Rtx_15.out rfl
      have ztx2 := frozen_of_row _ _ 2 _ _ Rtx_15.out
      have xtx := heap_lt Rtx_15.out
      have fq70 := row_c (i := 0) Rq7_15.out rfl
      have zq70 := frozen_of_row _ _ 0 _ _ Rq7_15.out
      have fq71 := row_c (i := 1) Rq7_15.out rfl
      have zq71 := frozen_of_row _ _ 1 _ _ Rq7_15.out
      have fq72 := row_c (i := 2) Rq7_15.out rfl
      have zq72 := frozen_of_row _ _ 2 _ _ Rq7_15.out
      have xq7 := heap_lt Rq7_15.out
      go_wp2_with fail
      refine (dcmp_any (m := mx) (n := Mh) (x := yx) (y := Eh) (q := j2) (L15.out.get (A := A3) (c := c3) (xs := digs mx.natAbs) (by simp)) (L15.out.get (A := B5) (c := d5) (xs := digs Mh.natAbs) (by simp)) (Nat.le_trans Dx.out (by omega)) (Nat.le_trans Dhi.out (by omega)) Rx.out Rhi.out C2.out).mono ?_
      rintro e w16 ⟨rfl, hb⟩
      have L16 := Lib.hid (L15.out.step hb)
      clear ftx0 ztx0 ftx1 ztx1 ftx2 ztx2 xtx fq70 zq70 fq71 zq71 fq72 zq72 xq7
      have Rx_16 := Lib.hid (cells_of Rx_15.out hb)
      have Ry_16 := Lib.hid (cells_of Ry_15.out hb)
      have Rtx_16 := Lib.hid (cells_of Rtx_15.out hb)
      have Rty_16 := Lib.hid (cells_of Rty_15.out hb)
      have Rf_16 := Lib.hid (cells_of Rf_15.out hb)
      have Rg_16 := Lib.hid (cells_of Rg_15.out hb)
      have Rblo_16 := Lib.hid (cells_of Rblo_15.out hb)
      have Rq7_16 := Lib.hid (cells_of Rq7_15.out hb)
      clear hb 
      have ftx0 := row_c (i := 0) Rtx_16.out rfl
      have ztx0 := frozen_of_row _ _ 0 _ _ Rtx_16.out
      have ftx1 := row_c (i := 1) Rtx_16.out rfl
      have ztx1 := frozen_of_row _ _ 1 _ _ Rtx_16.out
      have ftx2 := row_c (i := 2) Rtx_16.out rfl
      have ztx2 := frozen_of_row _ _ 2 _ _ Rtx_16.out
      have xtx := heap_lt Rtx_16.out
      have fty0 := row_c (i := 0) Rty_16.out rfl
      have zty0 := frozen_of_row _ _ 0 _ _ Rty_16.out
      have fty1 := row_c (i := 1) Rty_16.out rfl
      have zty1 := frozen_of_row _ _ 1 _ _ Rty_16.out
      have fty2 := row_c (i := 2) Rty_16.out rfl
      have zty2 := frozen_of_row _ _ 2 _ _ Rty_16.out
      have xty := heap_lt Rty_16.out
      go_wp2_with fail
      refine (dcmp_any (m := mx) (n := my) (x := yx) (y := yy) (q := j3) (L16.out.get (A := A3) (c := c3) (xs := digs mx.natAbs) (by simp)) (L16.out.get (A := A5) (c := c5) (xs := digs my.natAbs) (by simp)) (Nat.le_trans Dx.out (by omega)) (Nat.le_trans Dy.out (by omega)) Rx.out Ry.out C3.out).mono ?_
      rintro e w17 ⟨rfl, hb⟩
      have L17 := Lib.hid (L16.out.step hb)
      clear ftx0 ztx0 ftx1 ztx1 ftx2 ztx2 xtx fty0 zty0 fty1 zty1 fty2 zty2 xty
      have Rx_17 := Lib.hid (cells_of Rx_16.out hb)
      have Ry_17 := Lib.hid (cells_of Ry_16.out hb)
      have Rtx_17 := Lib.hid (cells_of Rtx_16.out hb)
      have Rty_17 := Lib.hid (cells_of Rty_16.out hb)
      have Rf_17 := Lib.hid (cells_of Rf_16.out hb)
      have Rg_17 := Lib.hid (cells_of Rg_16.out hb)
      have Rblo_17 := Lib.hid (cells_of Rblo_16.out hb)
      have Rq7_17 := Lib.hid (cells_of Rq7_16.out hb)
      clear hb 
      have ff0 := row_c (i := 0) Rf_17.out rfl
      have zf0 := frozen_of_row _ _ 0 _ _ Rf_17.out
      have ff1 := row_c (i := 1) Rf_17.out rfl
      have zf1 := frozen_of_row _ _ 1 _ _ Rf_17.out
      have xf := heap_lt Rf_17.out
      have fg0 := row_c (i := 0) Rg_17.out rfl
      have zg0 := frozen_of_row _ _ 0 _ _ Rg_17.out
      have fg1 := row_c (i := 1) Rg_17.out rfl
      have zg1 := frozen_of_row _ _ 1 _ _ Rg_17.out
      have xg := heap_lt Rg_17.out
      go_wp2_with fail
      refine (zcmp_d (L17.out.get (A := A7) (c := c7) (xs := digs z1.natAbs) (by simp)) (L17.out.get (A := A9) (c := c9) (xs := digs z2.natAbs) (by simp)) (Nat.le_trans LZ1.out (by omega)) (Nat.le_trans LZ2.out (by omega)) C4.out).mono ?_
      rintro e w18 ⟨rfl, hb⟩
      have L18 := Lib.hid (L17.out.step hb)
      clear ff0 zf0 ff1 zf1 xf fg0 zg0 fg1 zg1 xg
      have Rx_18 := Lib.hid (cells_of Rx_17.out hb)
      have Ry_18 := Lib.hid (cells_of Ry_17.out hb)
      have Rtx_18 := Lib.hid (cells_of Rtx_17.out hb)
      have Rty_18 := Lib.hid (cells_of Rty_17.out hb)
      have Rf_18 := Lib.hid (cells_of Rf_17.out hb)
      have Rg_18 := Lib.hid (cells_of Rg_17.out hb)
      have Rblo_18 := Lib.hid (cells_of Rblo_17.out hb)
      have Rq7_18 := Lib.hid (cells_of Rq7_17.out hb)
      clear hb 
      go_wp2
      go_ret
      exact ⟨rfl, L18.out.1⟩
    · have e6 : a.tmps.getD 44 undef = .bool true := hx
      rw [hF.fold (by kernel_rfl)]
      simp only [List.foldl_cons, List.foldl_nil, e0, e1, e2, e3, e4, e5, e7, e6]
      simp only [Act.put, List.setIfInBounds_toArray, List.set_cons_zero, List.set_cons_succ]
      clear e0 e1 e2 e3 e4 e5 e7 e6 hR hF hF0 h1 h2 h3 h4 h5 h7 hx
      obtain ⟨w13, hW⟩ : ∃ W : World, W = x := ⟨_, rfl⟩
      rw [← hW]
      rw [← hW] at hb hd1 hd2 hd3 hd4 hd5 hg7
      have L13 := Lib.hid ((((((L12.out.step hb).add hd1).add hd2).add hd3).add hd4).add hd5)
      have Rx_13 := Lib.hid (cells_of Rx_12.out hb)
      have Ry_13 := Lib.hid (cells_of Ry_12.out hb)
      have Rtx_13 := Lib.hid (cells_of Rtx_12.out hb)
      have Rty_13 := Lib.hid (cells_of Rty_12.out hb)
      have Rf_13 := Lib.hid (cells_of Rf_12.out hb)
      have Rg_13 := Lib.hid (cells_of Rg_12.out hb)
      have Rblo_13 := Lib.hid (cells_of Rblo_12.out hb)
      have Rq7_13 := Lib.hid hg7
      have Gq7 : w.heap.size ≤ g7 := Nat.le_trans L12.out.1.size hge7
      have Nxq7 : w.heap.size < g7 := by have := heap_lt Rx_12.out; omega
      have Nyq7 : w.heap.size + 1 < g7 := by have := heap_lt Ry_12.out; omega
      have Ntxq7 : w3.heap.size < g7 := by have := heap_lt Rtx_12.out; omega
      have Ntyq7 : w5.heap.size < g7 := by have := heap_lt Rty_12.out; omega
      have Nfq7 : w7.heap.size < g7 := by have := heap_lt Rf_12.out; omega
      have Ngq7 : w9.heap.size < g7 := by have := heap_lt Rg_12.out; omega
      have Nbloq7 : w11.heap.size < g7 := by have := heap_lt Rblo_12.out; omega
      clear hW hb hd1 hd2 hd3 hd4 hd5 hg7 hge7
      have fq70 := row_c (i := 0) Rq7_13.out rfl
      have zq70 := frozen_of_row _ _ 0 _ _ Rq7_13.out
      have fq71 := row_c (i := 1) Rq7_13.out rfl
      have zq71 := frozen_of_row _ _ 1 _ _ Rq7_13.out
      have fq72 := row_c (i := 2) Rq7_13.out rfl
      have zq72 := frozen_of_row _ _ 2 _ _ Rq7_13.out
      have xq7 := heap_lt Rq7_13.out
      simp only [wpOps_cons]
      simp only [wpOp, List.getElem?_toArray, List.getElem?_cons_succ, List.getElem?_cons_zero, Region.wanted, if_true]
      refine Or.inl ?_
      simp only [Oper.wp, execOp]
      go_simp
      simp only [wpOps_cons]
      simp only [wpOp, List.getElem?_toArray, List.getElem?_cons_succ, List.getElem?_cons_zero, Region.wanted, if_true]
      refine Or.inl ?_
      simp only [Oper.wp, execOp]
      go_simp
      try simp only [wpOps]
      clear fq70 zq70 fq71 zq71 fq72 zq72 xq7
      obtain ⟨w14, hW⟩ : ∃ W : World, W = (((w13.setCell ⟨g7, 0, none⟩ (.bool (decide (Mh < 0)))).setCell ⟨g7, 1, none⟩ (.slice B5 (digs Mh.natAbs).length d5)).setCell ⟨g7, 2, none⟩ (.int .i64 Eh)) := ⟨_, rfl⟩
      rw [← hW]
      have hO : Only (g7) w13 w14 := by rw [hW]; exact ((((Only.refl (g7) w13).setCell 0 _).setCell 1 _).setCell 2 _)
      have L14 := Lib.hid (live_only L13.out hO Rq7_13.out noint_dy Gq7)
      have Rx_14 := Lib.hid ((hO.block _ (by omega)).trans Rx_13.out)
      have Ry_14 := Lib.hid ((hO.block _ (by omega)).trans Ry_13.out)
      have Rtx_14 := Lib.hid ((hO.block _ (by omega)).trans Rtx_13.out)
      have Rty_14 := Lib.hid ((hO.block _ (by omega)).trans Rty_13.out)
      have Rf_14 := Lib.hid ((hO.block _ (by omega)).trans Rf_13.out)
      have Rg_14 := Lib.hid ((hO.block _ (by omega)).trans Rg_13.out)
      have Rblo_14 := Lib.hid ((hO.block _ (by omega)).trans Rblo_13.out)
      have Rq7_14 := Lib.hid (show w14.heap[g7]? = some (.cells #[.bool (decide (Mh < 0)), .slice B5 (digs Mh.natAbs).length d5, .int .i64 Eh] 26 (0, 0)) by rw [hW]; exact (heap_setCell_same _ _ 2 _ _ _ (heap_setCell_same _ _ 1 _ _ _ (heap_setCell_same _ _ 0 _ _ _ Rq7_13.out))))
      clear hW hO
      have g1 := G1.out
      have g2 := G2.out
      have g3 := G3.out
      have g4 := G4.out
      have fblo0 := row_c (i := 0) Rblo_14.out rfl
      have zblo0 := frozen_of_row _ _ 0 _ _ Rblo_14.out
      have fblo1 := row_c (i := 1) Rblo_14.out rfl
      have zblo1 := frozen_of_row _ _ 1 _ _ Rblo_14.out
      have fblo2 := row_c (i := 2) Rblo_14.out rfl
      have zblo2 := frozen_of_row _ _ 2 _ _ Rblo_14.out
      have xblo := heap_lt Rblo_14.out
      have ftx0 := row_c (i := 0) Rtx_14.out rfl
      have ztx0 := frozen_of_row _ _ 0 _ _ Rtx_14.out
      have ftx1 := row_c (i := 1) Rtx_14.out rfl
      have ztx1 := frozen_of_row _ _ 1 _ _ Rtx_14.out
      have ftx2 := row_c (i := 2) Rtx_14.out rfl
      have ztx2 := frozen_of_row _ _ 2 _ _ Rtx_14.out
      have xtx := heap_lt Rtx_14.out
      go_wp2_with fail
      refine (dcmp_any (m := Ml) (n := mx) (x := El) (y := yx) (q := j1) (L14.out.get (A := A11) (c := c11) (xs := digs Ml.natAbs) (by simp)) (L14.out.get (A := A3) (c := c3) (xs := digs mx.natAbs) (by simp)) (Nat.le_trans Dlo.out (by omega)) (Nat.le_trans Dx.out (by omega)) Rlo.out Rx.out C1.out).mono ?_
      rintro e w15 ⟨rfl, hb⟩
      have L15 := Lib.hid (L14.out.step hb)
      clear fblo0 zblo0 fblo1 zblo1 fblo2 zblo2 xblo ftx0 ztx0 ftx1 ztx1 ftx2 ztx2 xtx
      have Rx_15 := Lib.hid (cells_of Rx_14.out hb)
      have Ry_15 := Lib.hid (cells_of Ry_14.out hb)
      have Rtx_15 := Lib.hid (cells_of Rtx_14.out hb)
      have Rty_15 := Lib.hid (cells_of Rty_14.out hb)
      have Rf_15 := Lib.hid (cells_of Rf_14.out hb)
      have Rg_15 := Lib.hid (cells_of Rg_14.out hb)
      have Rblo_15 := Lib.hid (cells_of Rblo_14.out hb)
      have Rq7_15 := Lib.hid (cells_of Rq7_14.out hb)
      clear hb 
      have ftx0 := row_c (i := 0) Rtx_15.out rfl
      have ztx0 := frozen_of_row _ _ 0 _ _ Rtx_15.out
      have ftx1 := row_c (i := 1) Rtx_15.out rfl
      have ztx1 := frozen_of_row _ _ 1 _ _ Rtx_15.out
      have ftx2 := row_c (i := 2) Rtx_15.out rfl
      have ztx2 := frozen_of_row _ _ 2 _ _ Rtx_15.out
      have xtx := heap_lt Rtx_15.out
      have fq70 := row_c (i := 0) Rq7_15.out rfl
      have zq70 := frozen_of_row _ _ 0 _ _ Rq7_15.out
      have fq71 := row_c (i := 1) Rq7_15.out rfl
      have zq71 := frozen_of_row _ _ 1 _ _ Rq7_15.out
      have fq72 := row_c (i := 2) Rq7_15.out rfl
      have zq72 := frozen_of_row _ _ 2 _ _ Rq7_15.out
      have xq7 := heap_lt Rq7_15.out
      go_wp2_with fail
      refine (dcmp_any (m := mx) (n := Mh) (x := yx) (y := Eh) (q := j2) (L15.out.get (A := A3) (c := c3) (xs := digs mx.natAbs) (by simp)) (L15.out.get (A := B5) (c := d5) (xs := digs Mh.natAbs) (by simp)) (Nat.le_trans Dx.out (by omega)) (Nat.le_trans Dhi.out (by omega)) Rx.out Rhi.out C2.out).mono ?_
      rintro e w16 ⟨rfl, hb⟩
      have L16 := Lib.hid (L15.out.step hb)
      clear ftx0 ztx0 ftx1 ztx1 ftx2 ztx2 xtx fq70 zq70 fq71 zq71 fq72 zq72 xq7
      have Rx_16 := Lib.hid (cells_of Rx_15.out hb)
      have Ry_16 := Lib.hid (cells_of Ry_15.out hb)
      have Rtx_16 := Lib.hid (cells_of Rtx_15.out hb)
      have Rty_16 := Lib.hid (cells_of Rty_15.out hb)
      have Rf_16 := Lib.hid (cells_of Rf_15.out hb)
      have Rg_16 := Lib.hid (cells_of Rg_15.out hb)
      have Rblo_16 := Lib.hid (cells_of Rblo_15.out hb)
      have Rq7_16 := Lib.hid (cells_of Rq7_15.out hb)
      clear hb 
      have ftx0 := row_c (i := 0) Rtx_16.out rfl
      have ztx0 := frozen_of_row _ _ 0 _ _ Rtx_16.out
      have ftx1 := row_c (i := 1) Rtx_16.out rfl
      have ztx1 := frozen_of_row _ _ 1 _ _ Rtx_16.out
      have ftx2 := row_c (i := 2) Rtx_16.out rfl
      have ztx2 := frozen_of_row _ _ 2 _ _ Rtx_16.out
      have xtx := heap_lt Rtx_16.out
      have fty0 := row_c (i := 0) Rty_16.out rfl
      have zty0 := frozen_of_row _ _ 0 _ _ Rty_16.out
      have fty1 := row_c (i := 1) Rty_16.out rfl
      have zty1 := frozen_of_row _ _ 1 _ _ Rty_16.out
      have fty2 := row_c (i := 2) Rty_16.out rfl
      have zty2 := frozen_of_row _ _ 2 _ _ Rty_16.out
      have xty := heap_lt Rty_16.out
      go_wp2_with fail
      refine (dcmp_any (m := mx) (n := my) (x := yx) (y := yy) (q := j3) (L16.out.get (A := A3) (c := c3) (xs := digs mx.natAbs) (by simp)) (L16.out.get (A := A5) (c := c5) (xs := digs my.natAbs) (by simp)) (Nat.le_trans Dx.out (by omega)) (Nat.le_trans Dy.out (by omega)) Rx.out Ry.out C3.out).mono ?_
      rintro e w17 ⟨rfl, hb⟩
      have L17 := Lib.hid (L16.out.step hb)
      clear ftx0 ztx0 ftx1 ztx1 ftx2 ztx2 xtx fty0 zty0 fty1 zty1 fty2 zty2 xty
      have Rx_17 := Lib.hid (cells_of Rx_16.out hb)
      have Ry_17 := Lib.hid (cells_of Ry_16.out hb)
      have Rtx_17 := Lib.hid (cells_of Rtx_16.out hb)
      have Rty_17 := Lib.hid (cells_of Rty_16.out hb)
      have Rf_17 := Lib.hid (cells_of Rf_16.out hb)
      have Rg_17 := Lib.hid (cells_of Rg_16.out hb)
      have Rblo_17 := Lib.hid (cells_of Rblo_16.out hb)
      have Rq7_17 := Lib.hid (cells_of Rq7_16.out hb)
      clear hb 
      have ff0 := row_c (i := 0) Rf_17.out rfl
      have zf0 := frozen_of_row _ _ 0 _ _ Rf_17.out
      have ff1 := row_c (i := 1) Rf_17.out rfl
      have zf1 := frozen_of_row _ _ 1 _ _ Rf_17.out
      have xf := heap_lt Rf_17.out
      have fg0 := row_c (i := 0) Rg_17.out rfl
      have zg0 := frozen_of_row _ _ 0 _ _ Rg_17.out
      have fg1 := row_c (i := 1) Rg_17.out rfl
      have zg1 := frozen_of_row _ _ 1 _ _ Rg_17.out
      have xg := heap_lt Rg_17.out
      go_wp2_with fail
      refine (zcmp_d (L17.out.get (A := A7) (c := c7) (xs := digs z1.natAbs) (by simp)) (L17.out.get (A := A9) (c := c9) (xs := digs z2.natAbs) (by simp)) (Nat.le_trans LZ1.out (by omega)) (Nat.le_trans LZ2.out (by omega)) C4.out).mono ?_
      rintro e w18 ⟨rfl, hb⟩
      have L18 := Lib.hid (L17.out.step hb)
      clear ff0 zf0 ff1 zf1 xf fg0 zg0 fg1 zg1 xg
      have Rx_18 := Lib.hid (cells_of Rx_17.out hb)
      have Ry_18 := Lib.hid (cells_of Ry_17.out hb)
      have Rtx_18 := Lib.hid (cells_of Rtx_17.out hb)
      have Rty_18 := Lib.hid (cells_of Rty_17.out hb)
      have Rf_18 := Lib.hid (cells_of Rf_17.out hb)
      have Rg_18 := Lib.hid (cells_of Rg_17.out hb)
      have Rblo_18 := Lib.hid (cells_of Rblo_17.out hb)
      have Rq7_18 := Lib.hid (cells_of Rq7_17.out hb)
      clear hb 
      go_wp2
      go_ret
      exact ⟨rfl, L18.out.1⟩

theorem dyadFloors_any  (Ax : Option Addr) (cx : Nat) (sx : Bool) (xsx : List Nat) (ex : Int) (Ay : Option Addr) (cy : Nat) (sy : Bool) (xsy : List Nat) (ey : Int) (w : World)  (hx : Dg w Ax cx xsx) (lx : xsx.length ≤ 9223372036854775807) (ex0 : -9223372036854775808 ≤ ex) (ex1 : ex ≤ 9223372036854775807) (hy : Dg w Ay cy xsy) (ly : xsy.length ≤ 9223372036854775807) (ey0 : -9223372036854775808 ≤ ey) (ey1 : ey ≤ 9223372036854775807) (hT : T32 w) :
    Calls Tryd.prog 10 #[.agg #[.bool sx, .slice Ax xsx.length cx, .int .i64 ex], .agg #[.bool sy, .slice Ay xsy.length cy, .int .i64 ey]] w fun e w' => e = .returned (.bool true) ∧ Below w.heap.size w w' := by
  by_cases c1 : 0 < cmpd (dv (nm (sg sx (val (xsx.take 6)))) (nx (sg sx (val (xsx.take 6))) (tameE ex))) (dv (nm (sg sy (val (xsy.take 6)))) (nx (sg sy (val (xsy.take 6))) (tameE ey)))
  · exact dyadFloors_g Ax cx sx xsx ex Ay cy sy xsy ey w hx lx ex0 ex1 hy ly ey0 ey1 hT c1
  · exact dyadFloors_e Ax cx sx xsx ex Ay cy sy xsy ey w hx lx ex0 ex1 hy ly ey0 ey1 hT c1
end Go.Proofs.YtnfafgpnnpapdaaDoor
end

section
/-
  DyadFloors, FOR EVERY ARGUMENT: the law returns true, and each argument reads behind the call as it read ahead of it. THE TIED CARD.
-/
namespace Go.Proofs.YtnfafgpnnpapdaaDoor.dyadFloors
open Go Go.ChangeShapes Go.WideShapes Go.ChangeAt Go.RowKit
set_option linter.unusedVariables false
/-- The door's own heap meets the condition. -/
theorem door_met (os : Os) (args : Array Value) : laidMetH Tryd.prog Rows.dyadFloorsRow.laid ((World.doorLaid Tryd.prog 400 os).forCall (fun _ _ => 0) ⟨#[], args, []⟩).memory :=
  laidMetH_of_parts3 (fuel := 8) (laidMet_of_run' 8 (by kernel_rfl) (by kernel_rfl)) (by kernel_rfl) (by kernel_rfl)
set_option maxRecDepth 100000 in
theorem lifted (os : Os) (started : os.Started) (H : Type) (enc : TypeId × Value → H) :
    ReturnsInHanded {} Tryd.checked os 10 .any (fun w args => (Rows.dyadFloorsSpec.pre enc Tryd.prog Tryd.f10 [] false w args ∧ laidMetH Tryd.prog Rows.dyadFloorsRow.laid w) ∧ sizedMet enc Tryd.prog Tryd.f10 (OpenSpec.ofChange Rows.dyadFloorsSpec) false w args)
      (Rows.dyadFloorsSpec.post enc Tryd.prog Tryd.f10 false true false false) := by
  refine returnsInHanded_of_change_and (C := Tryd.checked) (X := fun w _ => laidMetH Tryd.prog Rows.dyadFloorsRow.laid w) (fun _ _ _ hh h => h.of_heap hh) own started (by kernel_rfl) Tryd.func10
    (ChangeSpec.witness_shaped (enc := enc) (C := Tryd.checked) (os := os) (X := fun w _ => laidMetH Tryd.prog Rows.dyadFloorsRow.laid w) false (World.doorLaid Tryd.prog 400 os) #[.agg #[.bool false, .slice none 0 0, .int .i64 0], .agg #[.bool false, .slice none 0 0, .int .i64 0]] 8 rfl (World.shaped_of_RefB (by kernel_rfl) (by kernel_rfl)) (by kernel_rfl) (by kernel_rfl) (by kernel_rfl) (door_met os _)) ?_
  intro W base args ds gs before hval0 hW _ _ hL _
  rw [MakeChecks.laidMetH_plain _ _ _ (by kernel_rfl)] at hL
  have htab := t32_laid hL
  clear hL
  have hval : ∀ (j : Nat) t v, Tryd.f10.params[j]? = some t → args[j]? = some v → Value.okWide Tryd.prog W .any base t v := hval0
  have hW' := hW
  obtain ⟨p, q, hA0, hV, rfl, hfz, hnd⟩ := hW
  have hA : DataW.TrodAll enc Tryd.prog W 0 (fun _ => true) true Tryd.f10.params.toList args.toList ds p := hA0
  rw [Tryd.params10] at hA hval
  obtain ⟨v0, vs0, d0, ds0, p0, q0, hargs, rfl, rfl, h0, r0⟩ := trodAll_cons hA
  obtain ⟨v1, vs1, d1, ds1, p1, q1, rfl, rfl, rfl, h1, r1⟩ := trodAll_cons r0
  obtain ⟨rfl, rfl, rfl⟩ := trodAll_nil r1
  obtain rfl : args = #[v0, v1] := by cases args; simp_all
  obtain ⟨rfl, rfl⟩ := trodVars_none hV
  obtain ⟨s0, A0, c0, xs0, x0, rfl, g0, l0, x00, x01⟩ := open_d (hval 0 _ _ rfl rfl) h0
  obtain ⟨s1, A1, c1, xs1, x1, rfl, g1, l1, x10, x11⟩ := open_d (hval 1 _ _ rfl rfl) h1
  clear hA0
  simp only [List.append_nil] at hW'
  refine (dyadFloors_any A0 c0 s0 xs0 x0 A1 c1 s1 xs1 x1 W g0 l0 x00 x01 g1 l1 x10 x11 htab).mono fun e W' ⟨he, hb⟩ => ?_
  subst he
  have hlt := hW'.lt
  refine ⟨_, rfl, law_post (tb := 4) hW' hb rfl rfl Tryd.underlying4 rfl rfl fun sp hsp => ?_⟩
  have hr := trodAll_cons_mk (again (by kernel_rfl) (of_decide_eq_true (by kernel_rfl)) h0 hb (fun x hx => hlt x (by simp [hx])) sp (fun x hx => hsp x (by simp [hx]))) (trodAll_cons_mk (again (by kernel_rfl) (of_decide_eq_true (by kernel_rfl)) h1 hb (fun x hx => hlt x (by simp [hx])) sp (fun x hx => hsp x (by simp [hx]))) trodAll_mk0)
  simp only [List.append_nil] at hr
  exact hr
theorem row_holds : Rows.DyadFloorsSaid :=
  OpenClaim.holds_of_wide 10 Tryd.f10 rfl rfl rfl rfl rfl rfl rfl ⟨rfl, rfl, rfl, rfl, rfl⟩ rfl rfl rfl rfl rfl (by kernel_rfl) Tryd.func10 (by kernel_rfl)
    (of_decide_eq_true (by kernel_rfl)) (by unfold Func.isWrapper; first | (rw [if_pos (by decide +kernel)]; kernel_rfl) | (rw [if_neg (by decide +kernel)]; exact ⟨rfl, rfl⟩))
    (fun os started H enc _ => lifted os started H enc)
/-- THE TIED CARD. -/
theorem proved : Rows.DyadFloorsCardSaid :=
  Claim7.holds_tied_plain_at .later [] [.data] true (true, "7c66bf396cc85edd26b252ab6783573fce3f6eda62d94517dafae4d8f0360cd0") false
    row_holds (fun _ h => by cases h) (by kernel_rfl) (fun _ h => by cases h) dyadFloors_row_tie rfl ⟨rfl, rfl⟩ (by kernel_rfl) rfl
    (fun f fn hf hfn => by
      obtain rfl : f = 10 := Option.some.inj ((show Tryd.prog.funcNamed Rows.dyadFloorsRow.func = some 10 by kernel_rfl).symm.trans hf) |>.symm
      obtain rfl : fn = Tryd.f10 := (Option.some.inj (Tryd.func10.symm.trans hfn)).symm
      exact ⟨by kernel_rfl, fun j t ht => by
        have hall : (Tryd.f10.params.toList.all fun u => !Tryd.prog.wantsStandIn u) = true := by kernel_rfl
        exact (show Tryd.prog.wantsStandIn t = false by simpa using List.all_eq_true.1 hall t (Array.mem_toList_iff.2 (Array.mem_of_getElem? ht)))⟩)
    (by kernel_rfl)
end Go.Proofs.YtnfafgpnnpapdaaDoor.dyadFloors
end
