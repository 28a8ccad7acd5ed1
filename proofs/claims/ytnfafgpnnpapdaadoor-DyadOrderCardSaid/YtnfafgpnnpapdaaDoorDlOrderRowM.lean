import Derived.Test.YtnfafgpnnpapdaaDoorMB8
import Derived.Test.YtnfafgpnnpapdaaDoorMB9
import Derived.Test.YtnfafgpnnpapdaaDoorMB5
import Derived.Test.YtnfafgpnnpapdaaDoorTie
import Derived.Test.YtnfafgpnnpapdaaDoorCards
import Derived.SevenTiedAt
import Derived.OpenShut
import Derived.ChangeMaps5
section
/-
  DyadSteps.
-/
namespace Go.Proofs.YtnfafgpnnpapdaaDoor
open Go.RowKit
set_option linter.unusedSimpArgs false
set_option linter.unusedVariables false
theorem Tm.bd {M E : Int} (h : Tm M E) : Bd (-300) 492 M E := by
  refine ⟨h.1, ?_⟩
  by_cases h0 : M = 0
  · exact .inl h0
  · exact .inr (h.2.2 h0)
theorem Bd.rt {L H M E : Int} (h : Bd L H M E) (hL : -65536 ≤ L) (hH : H ≤ 65536) : Rt M E := by
  refine ⟨h.1, ?_⟩
  rcases h.2 with h0 | ⟨a, b⟩
  · have := nf_zero h.1 h0; omega
  · omega

set_option maxHeartbeats 8000000 in
set_option maxRecDepth 100000 in
theorem dyadSteps_any  (Ax : Option Addr) (cx : Nat) (sx : Bool) (xsx : List Nat) (ex : Int) (p : Int) (q : Int) (up : Bool) (w : World)  (hx : Dg w Ax cx xsx) (lx : xsx.length ≤ 9223372036854775807) (ex0 : -9223372036854775808 ≤ ex) (ex1 : ex ≤ 9223372036854775807) (p0 : -9223372036854775808 ≤ p) (p1 : p ≤ 9223372036854775807) (q0 : -9223372036854775808 ≤ q) (q1 : q ≤ 9223372036854775807) (hT : T32 w):
    Calls Tryd.prog 14 #[.agg #[.bool sx, .slice Ax xsx.length cx, .int .i64 ex], .int .i64 p, .int .i64 q, .bool up] w fun e w' => e = .returned (.bool true) ∧ Below w.heap.size w w' := by
  obtain ⟨mx, hmx⟩ : ∃ m, nm (sg sx (val (xsx.take 6))) = m := ⟨_, rfl⟩
  obtain ⟨yx, hyx⟩ : ∃ m, nx (sg sx (val (xsx.take 6))) (tameE ex) = m := ⟨_, rfl⟩
  have tx : Tm mx yx := hmx ▸ hyx ▸ tame_tm hx.2.1
  have bx := tx.bd
  have HMx := Lib.hid hmx
  have HYx := Lib.hid hyx
  have LXx := Lib.hid lx
  have E0x := Lib.hid ex0
  have E1x := Lib.hid ex1
  have Rx := Lib.hid tx.rt
  have Ix := Lib.hid tx.inR
  have Dx := Lib.hid (inr_len tx.inR)
  obtain ⟨Pp, hPp⟩ : ∃ vv, precV p = vv := ⟨_, rfl⟩
  have hPbp := precV_bd p
  rw [hPp] at hPbp
  obtain ⟨kp, hkp⟩ : ∃ k : Nat, (k : Int) = Pp := ⟨Pp.toNat, by omega⟩
  have HPp := Lib.hid hPp
  have HKp := Lib.hid hkp
  have Q0p := Lib.hid p0
  have Q1p := Lib.hid p1
  have hk2p : 2 ≤ kp := by omega
  have hk4p : kp ≤ 400 := by omega
  have hk3p : kp ≤ 200 := by omega
  obtain ⟨Pq, hPq⟩ : ∃ vv, precV q = vv := ⟨_, rfl⟩
  have hPbq := precV_bd q
  rw [hPq] at hPbq
  obtain ⟨kq, hkq⟩ : ∃ k : Nat, (k : Int) = Pq := ⟨Pq.toNat, by omega⟩
  have HPq := Lib.hid hPq
  have HKq := Lib.hid hkq
  have Q0q := Lib.hid q0
  have Q1q := Lib.hid q1
  have hk2q : 2 ≤ kq := by omega
  have hk4q : kq ≤ 400 := by omega
  have hk3q : kq ≤ 200 := by omega
  obtain ⟨M1, E1, r1⟩ := rd_exists mx yx tx.1 (max kp kq) up (by omega)
  have b1 := bx.round (by omega) r1
  obtain ⟨M2, E2, r2⟩ := rd_exists M1 E1 b1.1 (min kp kq) up (by omega)
  have b2 := b1.round (by omega) r2
  have r3 := r1.steps (by omega) (by omega) r2
  have Ru := Lib.hid (Bd.rt b1 (by omega) (by omega))
  have Iu := Lib.hid (Bd.inR b1 (by omega) (by omega))
  have Du := Lib.hid (inr_len Iu.out)
  have Rv := Lib.hid (Bd.rt b2 (by omega) (by omega))
  have Iv := Lib.hid (Bd.inR b2 (by omega) (by omega))
  have Dv := Lib.hid (inr_len Iv.out)
  have Rz := Lib.hid (Bd.rt b2 (by omega) (by omega))
  have Iz := Lib.hid (Bd.inR b2 (by omega) (by omega))
  have Dz := Lib.hid (inr_len Iz.out)
  have HRu := Lib.hid r1
  have HRv := Lib.hid r2
  have HRz := Lib.hid r3
  obtain ⟨Pm, hPm⟩ : ∃ k : Int, max Pp Pq = k := ⟨_, rfl⟩
  obtain ⟨Pn, hPn⟩ : ∃ k : Int, min Pp Pq = k := ⟨_, rfl⟩
  have KM := Lib.hid (show ((max kp kq : Nat) : Int) = Pm by omega)
  have KN := Lib.hid (show ((min kp kq : Nat) : Int) = Pn by omega)
  have hm2 : 2 ≤ max kp kq ∧ max kp kq ≤ 400 := by omega
  have hn2 : 2 ≤ min kp kq ∧ min kp kq ≤ 400 := by omega
  have HM2 := Lib.hid hm2
  have HN2 := Lib.hid hn2
  have HT := Lib.hid hT
  clear hT
  have L0 := Lib.hid ((live_start w).add hx)
  clear hx lx ex0 ex1 hmx hyx tx bx p0 p1 hPp hPbp hkp q0 q1 hPq hPbq hkq r1 b1 r2 b2 r3 hm2 hn2
  go_enter Tryd.func14, Tryd.ntmps14
  go_wp2_with fail
  obtain ⟨v1, hW⟩ : ∃ W : World, W = (w.alloc (.cells #[.bool sx, .slice Ax xsx.length cx, .int .i64 ex] 26)) := ⟨_, rfl⟩
  rw [← hW]
  have hb : Below w.heap.size w v1 := by rw [hW]; exact ((Below.refl _ _).alloc (by simp <;> omega) _)
  have L1 := Lib.hid (L0.out.step hb)
  have Rx_1 := Lib.hid (show v1.heap[w.heap.size]? = some (.cells #[.bool sx, .slice Ax xsx.length cx, .int .i64 ex] 26 (0, 0)) by rw [hW]; have := heap_alloc_new w (.cells #[.bool sx, .slice Ax xsx.length cx, .int .i64 ex] 26); simpa using this)
  have Gx : w.heap.size ≤ w.heap.size := by have := L0.out.1.size; omega
  clear hW hb
  refine (dexamples_any _ (t32_live HT.out L1.out)).mono ?_
  rintro e w2 ⟨rfl, hb⟩
  have L2 := Lib.hid (L1.out.step hb)
  have Rx_2 := Lib.hid (cells_of Rx_1.out hb)
  clear hb 
  have fx0 := row_c (i := 0) Rx_2.out rfl
  have zx0 := frozen_of_row _ _ 0 _ _ Rx_2.out
  have fx1 := row_c (i := 1) Rx_2.out rfl
  have zx1 := frozen_of_row _ _ 1 _ _ Rx_2.out
  have fx2 := row_c (i := 2) Rx_2.out rfl
  have zx2 := frozen_of_row _ _ 2 _ _ Rx_2.out
  have xx := heap_lt Rx_2.out
  go_wp2_with fail
  refine (tame_any (M := mx) (E := yx) (L2.out.get (A := Ax) (c := cx) (xs := xsx) (by simp)) (t32_live HT.out L2.out) LXx.out E0x.out E1x.out HMx.out HYx.out).mono ?_
  rintro e w3 ⟨A3, c3, rfl, hd, hb⟩
  have L3 := Lib.hid ((L2.out.step hb).add hd)
  clear fx0 zx0 fx1 zx1 fx2 zx2 xx
  have Rx_3 := Lib.hid (cells_of Rx_2.out hb)
  clear hb hd
  go_wp2_with fail
  obtain ⟨w4, hW⟩ : ∃ W : World, W = (w3.alloc (.cells #[.bool (decide (mx < 0)), .slice A3 (digs mx.natAbs).length c3, .int .i64 yx] 26)) := ⟨_, rfl⟩
  rw [← hW]
  have hb : Below w3.heap.size w3 w4 := by rw [hW]; exact ((Below.refl _ _).alloc (by simp <;> omega) _)
  have L4 := Lib.hid (L3.out.step hb)
  have Rx_4 := Lib.hid (cells_of Rx_3.out hb)
  have Rtx_4 := Lib.hid (show w4.heap[w3.heap.size]? = some (.cells #[.bool (decide (mx < 0)), .slice A3 (digs mx.natAbs).length c3, .int .i64 yx] 26 (0, 0)) by rw [hW]; have := heap_alloc_new w3 (.cells #[.bool (decide (mx < 0)), .slice A3 (digs mx.natAbs).length c3, .int .i64 yx] 26); simpa using this)
  have Gtx : w.heap.size ≤ w3.heap.size := by have := L3.out.1.size; omega
  have Nxtx : w.heap.size < w3.heap.size := by have := heap_lt Rx_3.out; omega
  clear hW hb
  refine (prec_any (q := Pp) Q0p.out Q1p.out HPp.out).mono ?_
  rintro e w5 ⟨rfl, rfl⟩
  go_wp2_with fail
  refine (prec_any (q := Pq) Q0q.out Q1q.out HPq.out).mono ?_
  rintro e w6 ⟨rfl, rfl⟩
  have ftx0 := row_c (i := 0) Rtx_4.out rfl
  have ztx0 := frozen_of_row _ _ 0 _ _ Rtx_4.out
  have ftx1 := row_c (i := 1) Rtx_4.out rfl
  have ztx1 := frozen_of_row _ _ 1 _ _ Rtx_4.out
  have ftx2 := row_c (i := 2) Rtx_4.out rfl
  have ztx2 := frozen_of_row _ _ 2 _ _ Rtx_4.out
  have xtx := heap_lt Rtx_4.out
  go_wp2_with fail
  refine (round_yes (m := mx) (x := yx) (M := M1) (E := E1) (up := up) (L4.out.get (A := A3) (c := c3) (xs := digs mx.natAbs) (by simp)) Dx.out Rx.out (t32_live HT.out L4.out) (p := max kp kq) KM.out HM2.out.1 HM2.out.2 HRu.out Iu.out).mono ?_
  rintro e w7 ⟨A7, c7, rfl, hd, hb⟩
  have L7 := Lib.hid ((L4.out.step hb).add hd)
  clear ftx0 ztx0 ftx1 ztx1 ftx2 ztx2 xtx
  have Rx_7 := Lib.hid (cells_of Rx_4.out hb)
  have Rtx_7 := Lib.hid (cells_of Rtx_4.out hb)
  clear hb hd
  go_wp2_with fail
  obtain ⟨w8, hW⟩ : ∃ W : World, W = (w7.alloc (.cells #[.bool (decide (M1 < 0)), .slice A7 (digs M1.natAbs).length c7, .int .i64 E1] 26)) := ⟨_, rfl⟩
  rw [← hW]
  have hb : Below w7.heap.size w7 w8 := by rw [hW]; exact ((Below.refl _ _).alloc (by simp <;> omega) _)
  have L8 := Lib.hid (L7.out.step hb)
  have Rx_8 := Lib.hid (cells_of Rx_7.out hb)
  have Rtx_8 := Lib.hid (cells_of Rtx_7.out hb)
  have Rbu_8 := Lib.hid (show w8.heap[w7.heap.size]? = some (.cells #[.bool (decide (M1 < 0)), .slice A7 (digs M1.natAbs).length c7, .int .i64 E1] 26 (0, 0)) by rw [hW]; have := heap_alloc_new w7 (.cells #[.bool (decide (M1 < 0)), .slice A7 (digs M1.natAbs).length c7, .int .i64 E1] 26); simpa using this)
  have Gbu : w.heap.size ≤ w7.heap.size := by have := L7.out.1.size; omega
  have Nxbu : w.heap.size < w7.heap.size := by have := heap_lt Rx_7.out; omega
  have Ntxbu : w3.heap.size < w7.heap.size := by have := heap_lt Rtx_7.out; omega
  clear hW hb
  refine (round_yes (m := M1) (x := E1) (M := M2) (E := E2) (up := up) (L8.out.get (A := A7) (c := c7) (xs := digs M1.natAbs) (by simp)) Du.out Ru.out (t32_live HT.out L8.out) (p := min kp kq) KN.out HN2.out.1 HN2.out.2 HRv.out Iv.out).mono ?_
  rintro e w9 ⟨A9, c9, rfl, hd, hb⟩
  have L9 := Lib.hid ((L8.out.step hb).add hd)
  have Rx_9 := Lib.hid (cells_of Rx_8.out hb)
  have Rtx_9 := Lib.hid (cells_of Rtx_8.out hb)
  have Rbu_9 := Lib.hid (cells_of Rbu_8.out hb)
  clear hb hd
  have ftx0 := row_c (i := 0) Rtx_9.out rfl
  have ztx0 := frozen_of_row _ _ 0 _ _ Rtx_9.out
  have ftx1 := row_c (i := 1) Rtx_9.out rfl
  have ztx1 := frozen_of_row _ _ 1 _ _ Rtx_9.out
  have ftx2 := row_c (i := 2) Rtx_9.out rfl
  have ztx2 := frozen_of_row _ _ 2 _ _ Rtx_9.out
  have xtx := heap_lt Rtx_9.out
  go_wp2_with fail
  obtain ⟨w10, hW⟩ : ∃ W : World, W = (w9.alloc (.cells #[.bool (decide (M2 < 0)), .slice A9 (digs M2.natAbs).length c9, .int .i64 E2] 26)) := ⟨_, rfl⟩
  rw [← hW]
  have hb : Below w9.heap.size w9 w10 := by rw [hW]; exact ((Below.refl _ _).alloc (by simp <;> omega) _)
  have L10 := Lib.hid (L9.out.step hb)
  have Rx_10 := Lib.hid (cells_of Rx_9.out hb)
  have Rtx_10 := Lib.hid (cells_of Rtx_9.out hb)
  have Rbu_10 := Lib.hid (cells_of Rbu_9.out hb)
  have Rbv_10 := Lib.hid (show w10.heap[w9.heap.size]? = some (.cells #[.bool (decide (M2 < 0)), .slice A9 (digs M2.natAbs).length c9, .int .i64 E2] 26 (0, 0)) by rw [hW]; have := heap_alloc_new w9 (.cells #[.bool (decide (M2 < 0)), .slice A9 (digs M2.natAbs).length c9, .int .i64 E2] 26); simpa using this)
  have Gbv : w.heap.size ≤ w9.heap.size := by have := L9.out.1.size; omega
  have Nxbv : w.heap.size < w9.heap.size := by have := heap_lt Rx_9.out; omega
  have Ntxbv : w3.heap.size < w9.heap.size := by have := heap_lt Rtx_9.out; omega
  have Nbubv : w7.heap.size < w9.heap.size := by have := heap_lt Rbu_9.out; omega
  clear hW hb
  clear ftx0 ztx0 ftx1 ztx1 ftx2 ztx2 xtx
  refine (round_yes (m := mx) (x := yx) (M := M2) (E := E2) (up := up) (L10.out.get (A := A3) (c := c3) (xs := digs mx.natAbs) (by simp)) Dx.out Rx.out (t32_live HT.out L10.out) (p := min kp kq) KN.out HN2.out.1 HN2.out.2 HRz.out Iz.out).mono ?_
  rintro e w11 ⟨A11, c11, rfl, hd, hb⟩
  have L11 := Lib.hid ((L10.out.step hb).add hd)
  have Rx_11 := Lib.hid (cells_of Rx_10.out hb)
  have Rtx_11 := Lib.hid (cells_of Rtx_10.out hb)
  have Rbu_11 := Lib.hid (cells_of Rbu_10.out hb)
  have Rbv_11 := Lib.hid (cells_of Rbv_10.out hb)
  clear hb hd
  have fbv0 := row_c (i := 0) Rbv_11.out rfl
  have zbv0 := frozen_of_row _ _ 0 _ _ Rbv_11.out
  have fbv1 := row_c (i := 1) Rbv_11.out rfl
  have zbv1 := frozen_of_row _ _ 1 _ _ Rbv_11.out
  have fbv2 := row_c (i := 2) Rbv_11.out rfl
  have zbv2 := frozen_of_row _ _ 2 _ _ Rbv_11.out
  have xbv := heap_lt Rbv_11.out
  go_wp2_with fail
  obtain ⟨w12, hW⟩ : ∃ W : World, W = (w11.alloc (.cells #[.bool (decide (M2 < 0)), .slice A11 (digs M2.natAbs).length c11, .int .i64 E2] 26)) := ⟨_, rfl⟩
  rw [← hW]
  have hb : Below w11.heap.size w11 w12 := by rw [hW]; exact ((Below.refl _ _).alloc (by simp <;> omega) _)
  have L12 := Lib.hid (L11.out.step hb)
  have Rx_12 := Lib.hid (cells_of Rx_11.out hb)
  have Rtx_12 := Lib.hid (cells_of Rtx_11.out hb)
  have Rbu_12 := Lib.hid (cells_of Rbu_11.out hb)
  have Rbv_12 := Lib.hid (cells_of Rbv_11.out hb)
  have Rbz_12 := Lib.hid (show w12.heap[w11.heap.size]? = some (.cells #[.bool (decide (M2 < 0)), .slice A11 (digs M2.natAbs).length c11, .int .i64 E2] 26 (0, 0)) by rw [hW]; have := heap_alloc_new w11 (.cells #[.bool (decide (M2 < 0)), .slice A11 (digs M2.natAbs).length c11, .int .i64 E2] 26); simpa using this)
  have Gbz : w.heap.size ≤ w11.heap.size := by have := L11.out.1.size; omega
  have Nxbz : w.heap.size < w11.heap.size := by have := heap_lt Rx_11.out; omega
  have Ntxbz : w3.heap.size < w11.heap.size := by have := heap_lt Rtx_11.out; omega
  have Nbubz : w7.heap.size < w11.heap.size := by have := heap_lt Rbu_11.out; omega
  have Nbvbz : w9.heap.size < w11.heap.size := by have := heap_lt Rbv_11.out; omega
  clear hW hb
  clear fbv0 zbv0 fbv1 zbv1 fbv2 zbv2 xbv
  refine (dsame_d (m := M2) (n := M2) (x := E2) (y := E2) (q := true) (L12.out.get (A := A9) (c := c9) (xs := digs M2.natAbs) (by simp)) (L12.out.get (A := A11) (c := c11) (xs := digs M2.natAbs) (by simp)) Dv.out (by simp)).mono ?_
  rintro e w13 ⟨rfl, hb⟩
  have L13 := Lib.hid (L12.out.step hb)
  have Rx_13 := Lib.hid (cells_of Rx_12.out hb)
  have Rtx_13 := Lib.hid (cells_of Rtx_12.out hb)
  have Rbu_13 := Lib.hid (cells_of Rbu_12.out hb)
  have Rbv_13 := Lib.hid (cells_of Rbv_12.out hb)
  have Rbz_13 := Lib.hid (cells_of Rbz_12.out hb)
  clear hb 
  go_wp2
  go_ret
  exact ⟨rfl, L13.out.1⟩
end Go.Proofs.YtnfafgpnnpapdaaDoor
end

section
/-
  DyadOrder: a case.
-/
namespace Go.Proofs.YtnfafgpnnpapdaaDoor
open Go.RowKit
set_option linter.unusedSimpArgs false
set_option linter.unusedVariables false
set_option maxHeartbeats 8000000 in
set_option maxRecDepth 100000 in
theorem dyadOrder_g  (Ax : Option Addr) (cx : Nat) (sx : Bool) (xsx : List Nat) (ex : Int) (Ay : Option Addr) (cy : Nat) (sy : Bool) (xsy : List Nat) (ey : Int) (Az : Option Addr) (cz : Nat) (sz : Bool) (xsz : List Nat) (ez : Int) (w : World)  (hx : Dg w Ax cx xsx) (lx : xsx.length ≤ 9223372036854775807) (ex0 : -9223372036854775808 ≤ ex) (ex1 : ex ≤ 9223372036854775807) (hy : Dg w Ay cy xsy) (ly : xsy.length ≤ 9223372036854775807) (ey0 : -9223372036854775808 ≤ ey) (ey1 : ey ≤ 9223372036854775807) (hz : Dg w Az cz xsz) (lz : xsz.length ≤ 9223372036854775807) (ez0 : -9223372036854775808 ≤ ez) (ez1 : ez ≤ 9223372036854775807) (hT : T32 w) (c1 : 0 < cmpd (dv (nm (sg sx (val (xsx.take 6)))) (nx (sg sx (val (xsx.take 6))) (tameE ex))) (dv (nm (sg sy (val (xsy.take 6)))) (nx (sg sy (val (xsy.take 6))) (tameE ey)))):
    Calls Tryd.prog 13 #[.agg #[.bool sx, .slice Ax xsx.length cx, .int .i64 ex], .agg #[.bool sy, .slice Ay xsy.length cy, .int .i64 ey], .agg #[.bool sz, .slice Az xsz.length cz, .int .i64 ez]] w fun e w' => e = .returned (.bool true) ∧ Below w.heap.size w w' := by
  obtain ⟨mx, hmx⟩ : ∃ m, nm (sg sx (val (xsx.take 6))) = m := ⟨_, rfl⟩
  obtain ⟨yx, hyx⟩ : ∃ m, nx (sg sx (val (xsx.take 6))) (tameE ex) = m := ⟨_, rfl⟩
  have tx : Tm mx yx := hmx ▸ hyx ▸ tame_tm hx.2.1
  have bx := tx.bd
  have HMx := Lib.hid hmx
  have HYx := Lib.hid hyx
  have LXx := Lib.hid lx
  have E0x := Lib.hid ex0
  have E1x := Lib.hid ex1
  have Rx := Lib.hid tx.rt
  have Ix := Lib.hid tx.inR
  have Dx := Lib.hid (inr_len tx.inR)
  obtain ⟨my, hmy⟩ : ∃ m, nm (sg sy (val (xsy.take 6))) = m := ⟨_, rfl⟩
  obtain ⟨yy, hyy⟩ : ∃ m, nx (sg sy (val (xsy.take 6))) (tameE ey) = m := ⟨_, rfl⟩
  have ty : Tm my yy := hmy ▸ hyy ▸ tame_tm hy.2.1
  skip
  have HMy := Lib.hid hmy
  have HYy := Lib.hid hyy
  have LXy := Lib.hid ly
  have E0y := Lib.hid ey0
  have E1y := Lib.hid ey1
  have Ry := Lib.hid ty.rt
  have Iy := Lib.hid ty.inR
  have Dy := Lib.hid (inr_len ty.inR)
  obtain ⟨mz, hmz⟩ : ∃ m, nm (sg sz (val (xsz.take 6))) = m := ⟨_, rfl⟩
  obtain ⟨yz, hyz⟩ : ∃ m, nx (sg sz (val (xsz.take 6))) (tameE ez) = m := ⟨_, rfl⟩
  have tz : Tm mz yz := hmz ▸ hyz ▸ tame_tm hz.2.1
  have bz := tz.bd
  have HMz := Lib.hid hmz
  have HYz := Lib.hid hyz
  have LXz := Lib.hid lz
  have E0z := Lib.hid ez0
  have E1z := Lib.hid ez1
  have Rz := Lib.hid tz.rt
  have Iz := Lib.hid tz.inR
  have Dz := Lib.hid (inr_len tz.inR)
  rw [hmx, hyx, hmy, hyy] at c1
  have byy := ty.bd
  obtain ⟨Md, Ed, i1⟩ := isD_sub mx yx my yy
  have b1 := bx.sub byy i1
  obtain ⟨j, hj⟩ : ∃ c, cmpd (dv mx yx) (dv my yy) = c := ⟨_, rfl⟩
  rw [hj] at c1
  have j0 : -1 ≤ j ∧ j ≤ 1 := by rw [← hj]; unfold cmpd; split <;> (try split) <;> omega
  have J0 := Lib.hid j0.1
  have J1 := Lib.hid j0.2
  have HJ := Lib.hid hj
  have HI := Lib.hid i1
  have C0 := Lib.hid (show cmpd (dv Md Ed) 0 = j by rw [i1.2, cmpd_sub]; exact hj)
  have C1 := Lib.hid (show cmpd (dv my yy) (dv mx yx) = -j by rw [cmpd_swap, hj])
  obtain ⟨nx_, hnx⟩ : ∃ z, -mx = z := ⟨_, rfl⟩
  obtain ⟨ny_, hny⟩ : ∃ z, -my = z := ⟨_, rfl⟩
  have C2 := Lib.hid (show cmpd (dv nx_ yx) (dv ny_ yy) = -j by rw [← hnx, ← hny, dv_neg, dv_neg, cmpd_neg, hj])
  have NX := Lib.hid (fun A c W (h : Dg W A c (digs mx.natAbs)) => neg_yes A c mx yx W h (Nat.le_trans Dx.out (by omega)) Rx.out)
  have NY := Lib.hid (fun A c W (h : Dg W A c (digs my.natAbs)) => neg_yes A c my yy W h (Nat.le_trans Dy.out (by omega)) Ry.out)
  have RNx := Lib.hid (rt_neg Rx.out)
  have RNy := Lib.hid (rt_neg Ry.out)
  have LNx := Lib.hid (show (digs nx_.natAbs).length ≤ 400000 by rw [← hnx, Int.natAbs_neg]; exact Nat.le_trans Dx.out (by omega))
  have LNy := Lib.hid (show (digs ny_.natAbs).length ≤ 400000 by rw [← hny, Int.natAbs_neg]; exact Nat.le_trans Dy.out (by omega))
  rw [hnx] at NX RNx
  rw [hny] at NY RNy
  have G1 := Lib.hid (show decide (0 < j) = true by simp; omega)
  obtain ⟨q, hq⟩ : ∃ q, (j == 0) = q := ⟨_, rfl⟩
  have HQ := Lib.hid hq
  have HS := Lib.hid (show decide (mx = my ∧ yx = yy) = q by rw [← hq, ← hj, Bool.eq_iff_iff]; simp only [beq_iff_eq, decide_eq_true_eq]; rw [cmpd_zero]; constructor; (rintro ⟨h1, h2⟩; rw [h1, h2]); exact fun h => nf_inj tx.1 ty.1 h)
  have Rd := Lib.hid (Bd.rt b1 (by omega) (by omega))
  have Id := Lib.hid (Bd.inR b1 (by omega) (by omega))
  have Dd := Lib.hid (inr_len Id.out)
  have HT := Lib.hid hT
  clear hT
  have L0 := Lib.hid ((((live_start w).add hx).add hy).add hz)
  clear hx lx ex0 ex1 hmx hyx tx bx hy ly ey0 ey1 hmy hyy ty hz lz ez0 ez1 hmz hyz tz bz byy i1 b1 hj j0 c1 hnx hny hq
  go_enter Tryd.func13, Tryd.ntmps13
  go_wp2_with fail
  obtain ⟨v1, hW⟩ : ∃ W : World, W = (((w.alloc (.cells #[.bool sx, .slice Ax xsx.length cx, .int .i64 ex] 26)).alloc (.cells #[.bool sy, .slice Ay xsy.length cy, .int .i64 ey] 26)).alloc (.cells #[.bool sz, .slice Az xsz.length cz, .int .i64 ez] 26)) := ⟨_, rfl⟩
  rw [← hW]
  have hb : Below w.heap.size w v1 := by rw [hW]; exact ((((Below.refl _ _).alloc (by simp <;> omega) _).alloc (by simp <;> omega) _).alloc (by simp <;> omega) _)
  have L1 := Lib.hid (L0.out.step hb)
  have Rx_1 := Lib.hid (show v1.heap[w.heap.size]? = some (.cells #[.bool sx, .slice Ax xsx.length cx, .int .i64 ex] 26 (0, 0)) by rw [hW]; have := heap_alloc_new w (.cells #[.bool sx, .slice Ax xsx.length cx, .int .i64 ex] 26); rw [heap_alloc_old _ _ (by simp <;> omega)]; rw [heap_alloc_old _ _ (by simp <;> omega)]; simpa using this)
  have Gx : w.heap.size ≤ w.heap.size := by have := L0.out.1.size; omega
  have Ry_1 := Lib.hid (show v1.heap[w.heap.size + 1]? = some (.cells #[.bool sy, .slice Ay xsy.length cy, .int .i64 ey] 26 (0, 0)) by rw [hW]; have := heap_alloc_new (w.alloc (.cells #[.bool sx, .slice Ax xsx.length cx, .int .i64 ex] 26)) (.cells #[.bool sy, .slice Ay xsy.length cy, .int .i64 ey] 26); rw [heap_alloc_old _ _ (by simp <;> omega)]; simpa using this)
  have Gy : w.heap.size ≤ w.heap.size + 1 := by have := L0.out.1.size; omega
  have Nxy : w.heap.size < w.heap.size + 1 := by omega
  have Rz_1 := Lib.hid (show v1.heap[w.heap.size + 1 + 1]? = some (.cells #[.bool sz, .slice Az xsz.length cz, .int .i64 ez] 26 (0, 0)) by rw [hW]; have := heap_alloc_new ((w.alloc (.cells #[.bool sx, .slice Ax xsx.length cx, .int .i64 ex] 26)).alloc (.cells #[.bool sy, .slice Ay xsy.length cy, .int .i64 ey] 26)) (.cells #[.bool sz, .slice Az xsz.length cz, .int .i64 ez] 26); simpa using this)
  have Gz : w.heap.size ≤ w.heap.size + 1 + 1 := by have := L0.out.1.size; omega
  have Nxz : w.heap.size < w.heap.size + 1 + 1 := by omega
  have Nyz : w.heap.size + 1 < w.heap.size + 1 + 1 := by omega
  clear hW hb
  refine (dexamples_any _ (t32_live HT.out L1.out)).mono ?_
  rintro e w2 ⟨rfl, hb⟩
  have L2 := Lib.hid (L1.out.step hb)
  have Rx_2 := Lib.hid (cells_of Rx_1.out hb)
  have Ry_2 := Lib.hid (cells_of Ry_1.out hb)
  have Rz_2 := Lib.hid (cells_of Rz_1.out hb)
  clear hb 
  have fx0 := row_c (i := 0) Rx_2.out rfl
  have zx0 := frozen_of_row _ _ 0 _ _ Rx_2.out
  have fx1 := row_c (i := 1) Rx_2.out rfl
  have zx1 := frozen_of_row _ _ 1 _ _ Rx_2.out
  have fx2 := row_c (i := 2) Rx_2.out rfl
  have zx2 := frozen_of_row _ _ 2 _ _ Rx_2.out
  have xx := heap_lt Rx_2.out
  go_wp2_with fail
  refine (tame_any (M := mx) (E := yx) (L2.out.get (A := Ax) (c := cx) (xs := xsx) (by simp)) (t32_live HT.out L2.out) LXx.out E0x.out E1x.out HMx.out HYx.out).mono ?_
  rintro e w3 ⟨A3, c3, rfl, hd, hb⟩
  have L3 := Lib.hid ((L2.out.step hb).add hd)
  clear fx0 zx0 fx1 zx1 fx2 zx2 xx
  have Rx_3 := Lib.hid (cells_of Rx_2.out hb)
  have Ry_3 := Lib.hid (cells_of Ry_2.out hb)
  have Rz_3 := Lib.hid (cells_of Rz_2.out hb)
  clear hb hd
  have fy0 := row_c (i := 0) Ry_3.out rfl
  have zy0 := frozen_of_row _ _ 0 _ _ Ry_3.out
  have fy1 := row_c (i := 1) Ry_3.out rfl
  have zy1 := frozen_of_row _ _ 1 _ _ Ry_3.out
  have fy2 := row_c (i := 2) Ry_3.out rfl
  have zy2 := frozen_of_row _ _ 2 _ _ Ry_3.out
  have xy := heap_lt Ry_3.out
  go_wp2_with fail
  obtain ⟨w4, hW⟩ : ∃ W : World, W = (w3.alloc (.cells #[.bool (decide (mx < 0)), .slice A3 (digs mx.natAbs).length c3, .int .i64 yx] 26)) := ⟨_, rfl⟩
  rw [← hW]
  have hb : Below w3.heap.size w3 w4 := by rw [hW]; exact ((Below.refl _ _).alloc (by simp <;> omega) _)
  have L4 := Lib.hid (L3.out.step hb)
  have Rx_4 := Lib.hid (cells_of Rx_3.out hb)
  have Ry_4 := Lib.hid (cells_of Ry_3.out hb)
  have Rz_4 := Lib.hid (cells_of Rz_3.out hb)
  have Rtx_4 := Lib.hid (show w4.heap[w3.heap.size]? = some (.cells #[.bool (decide (mx < 0)), .slice A3 (digs mx.natAbs).length c3, .int .i64 yx] 26 (0, 0)) by rw [hW]; have := heap_alloc_new w3 (.cells #[.bool (decide (mx < 0)), .slice A3 (digs mx.natAbs).length c3, .int .i64 yx] 26); simpa using this)
  have Gtx : w.heap.size ≤ w3.heap.size := by have := L3.out.1.size; omega
  have Nxtx : w.heap.size < w3.heap.size := by have := heap_lt Rx_3.out; omega
  have Nytx : w.heap.size + 1 < w3.heap.size := by have := heap_lt Ry_3.out; omega
  have Nztx : w.heap.size + 1 + 1 < w3.heap.size := by have := heap_lt Rz_3.out; omega
  clear hW hb
  clear fy0 zy0 fy1 zy1 fy2 zy2 xy
  refine (tame_any (M := my) (E := yy) (L4.out.get (A := Ay) (c := cy) (xs := xsy) (by simp)) (t32_live HT.out L4.out) LXy.out E0y.out E1y.out HMy.out HYy.out).mono ?_
  rintro e w5 ⟨A5, c5, rfl, hd, hb⟩
  have L5 := Lib.hid ((L4.out.step hb).add hd)
  have Rx_5 := Lib.hid (cells_of Rx_4.out hb)
  have Ry_5 := Lib.hid (cells_of Ry_4.out hb)
  have Rz_5 := Lib.hid (cells_of Rz_4.out hb)
  have Rtx_5 := Lib.hid (cells_of Rtx_4.out hb)
  clear hb hd
  have fz0 := row_c (i := 0) Rz_5.out rfl
  have zz0 := frozen_of_row _ _ 0 _ _ Rz_5.out
  have fz1 := row_c (i := 1) Rz_5.out rfl
  have zz1 := frozen_of_row _ _ 1 _ _ Rz_5.out
  have fz2 := row_c (i := 2) Rz_5.out rfl
  have zz2 := frozen_of_row _ _ 2 _ _ Rz_5.out
  have xz := heap_lt Rz_5.out
  go_wp2_with fail
  obtain ⟨w6, hW⟩ : ∃ W : World, W = (w5.alloc (.cells #[.bool (decide (my < 0)), .slice A5 (digs my.natAbs).length c5, .int .i64 yy] 26)) := ⟨_, rfl⟩
  rw [← hW]
  have hb : Below w5.heap.size w5 w6 := by rw [hW]; exact ((Below.refl _ _).alloc (by simp <;> omega) _)
  have L6 := Lib.hid (L5.out.step hb)
  have Rx_6 := Lib.hid (cells_of Rx_5.out hb)
  have Ry_6 := Lib.hid (cells_of Ry_5.out hb)
  have Rz_6 := Lib.hid (cells_of Rz_5.out hb)
  have Rtx_6 := Lib.hid (cells_of Rtx_5.out hb)
  have Rty_6 := Lib.hid (show w6.heap[w5.heap.size]? = some (.cells #[.bool (decide (my < 0)), .slice A5 (digs my.natAbs).length c5, .int .i64 yy] 26 (0, 0)) by rw [hW]; have := heap_alloc_new w5 (.cells #[.bool (decide (my < 0)), .slice A5 (digs my.natAbs).length c5, .int .i64 yy] 26); simpa using this)
  have Gty : w.heap.size ≤ w5.heap.size := by have := L5.out.1.size; omega
  have Nxty : w.heap.size < w5.heap.size := by have := heap_lt Rx_5.out; omega
  have Nyty : w.heap.size + 1 < w5.heap.size := by have := heap_lt Ry_5.out; omega
  have Nzty : w.heap.size + 1 + 1 < w5.heap.size := by have := heap_lt Rz_5.out; omega
  have Ntxty : w3.heap.size < w5.heap.size := by have := heap_lt Rtx_5.out; omega
  clear hW hb
  clear fz0 zz0 fz1 zz1 fz2 zz2 xz
  refine (tame_any (M := mz) (E := yz) (L6.out.get (A := Az) (c := cz) (xs := xsz) (by simp)) (t32_live HT.out L6.out) LXz.out E0z.out E1z.out HMz.out HYz.out).mono ?_
  rintro e w7 ⟨A7, c7, rfl, hd, hb⟩
  have L7 := Lib.hid ((L6.out.step hb).add hd)
  have Rx_7 := Lib.hid (cells_of Rx_6.out hb)
  have Ry_7 := Lib.hid (cells_of Ry_6.out hb)
  have Rz_7 := Lib.hid (cells_of Rz_6.out hb)
  have Rtx_7 := Lib.hid (cells_of Rtx_6.out hb)
  have Rty_7 := Lib.hid (cells_of Rty_6.out hb)
  clear hb hd
  have ftx0 := row_c (i := 0) Rtx_7.out rfl
  have ztx0 := frozen_of_row _ _ 0 _ _ Rtx_7.out
  have ftx1 := row_c (i := 1) Rtx_7.out rfl
  have ztx1 := frozen_of_row _ _ 1 _ _ Rtx_7.out
  have ftx2 := row_c (i := 2) Rtx_7.out rfl
  have ztx2 := frozen_of_row _ _ 2 _ _ Rtx_7.out
  have xtx := heap_lt Rtx_7.out
  have fty0 := row_c (i := 0) Rty_7.out rfl
  have zty0 := frozen_of_row _ _ 0 _ _ Rty_7.out
  have fty1 := row_c (i := 1) Rty_7.out rfl
  have zty1 := frozen_of_row _ _ 1 _ _ Rty_7.out
  have fty2 := row_c (i := 2) Rty_7.out rfl
  have zty2 := frozen_of_row _ _ 2 _ _ Rty_7.out
  have xty := heap_lt Rty_7.out
  go_wp2_with fail
  obtain ⟨w8, hW⟩ : ∃ W : World, W = (w7.alloc (.cells #[.bool (decide (mz < 0)), .slice A7 (digs mz.natAbs).length c7, .int .i64 yz] 26)) := ⟨_, rfl⟩
  rw [← hW]
  have hb : Below w7.heap.size w7 w8 := by rw [hW]; exact ((Below.refl _ _).alloc (by simp <;> omega) _)
  have L8 := Lib.hid (L7.out.step hb)
  have Rx_8 := Lib.hid (cells_of Rx_7.out hb)
  have Ry_8 := Lib.hid (cells_of Ry_7.out hb)
  have Rz_8 := Lib.hid (cells_of Rz_7.out hb)
  have Rtx_8 := Lib.hid (cells_of Rtx_7.out hb)
  have Rty_8 := Lib.hid (cells_of Rty_7.out hb)
  have Rtz_8 := Lib.hid (show w8.heap[w7.heap.size]? = some (.cells #[.bool (decide (mz < 0)), .slice A7 (digs mz.natAbs).length c7, .int .i64 yz] 26 (0, 0)) by rw [hW]; have := heap_alloc_new w7 (.cells #[.bool (decide (mz < 0)), .slice A7 (digs mz.natAbs).length c7, .int .i64 yz] 26); simpa using this)
  have Gtz : w.heap.size ≤ w7.heap.size := by have := L7.out.1.size; omega
  have Nxtz : w.heap.size < w7.heap.size := by have := heap_lt Rx_7.out; omega
  have Nytz : w.heap.size + 1 < w7.heap.size := by have := heap_lt Ry_7.out; omega
  have Nztz : w.heap.size + 1 + 1 < w7.heap.size := by have := heap_lt Rz_7.out; omega
  have Ntxtz : w3.heap.size < w7.heap.size := by have := heap_lt Rtx_7.out; omega
  have Ntytz : w5.heap.size < w7.heap.size := by have := heap_lt Rty_7.out; omega
  clear hW hb
  clear ftx0 ztx0 ftx1 ztx1 ftx2 ztx2 xtx fty0 zty0 fty1 zty1 fty2 zty2 xty
  refine (dcmp_any (m := mx) (n := my) (x := yx) (y := yy) (q := j) (L8.out.get (A := A3) (c := c3) (xs := digs mx.natAbs) (by simp)) (L8.out.get (A := A5) (c := c5) (xs := digs my.natAbs) (by simp)) (Nat.le_trans Dx.out (by omega)) (Nat.le_trans Dy.out (by omega)) Rx.out Ry.out HJ.out).mono ?_
  rintro e w9 ⟨rfl, hb⟩
  have L9 := Lib.hid (L8.out.step hb)
  have Rx_9 := Lib.hid (cells_of Rx_8.out hb)
  have Ry_9 := Lib.hid (cells_of Ry_8.out hb)
  have Rz_9 := Lib.hid (cells_of Rz_8.out hb)
  have Rtx_9 := Lib.hid (cells_of Rtx_8.out hb)
  have Rty_9 := Lib.hid (cells_of Rty_8.out hb)
  have Rtz_9 := Lib.hid (cells_of Rtz_8.out hb)
  clear hb 
  have ftx0 := row_c (i := 0) Rtx_9.out rfl
  have ztx0 := frozen_of_row _ _ 0 _ _ Rtx_9.out
  have ftx1 := row_c (i := 1) Rtx_9.out rfl
  have ztx1 := frozen_of_row _ _ 1 _ _ Rtx_9.out
  have ftx2 := row_c (i := 2) Rtx_9.out rfl
  have ztx2 := frozen_of_row _ _ 2 _ _ Rtx_9.out
  have xtx := heap_lt Rtx_9.out
  have fty0 := row_c (i := 0) Rty_9.out rfl
  have zty0 := frozen_of_row _ _ 0 _ _ Rty_9.out
  have fty1 := row_c (i := 1) Rty_9.out rfl
  have zty1 := frozen_of_row _ _ 1 _ _ Rty_9.out
  have fty2 := row_c (i := 2) Rty_9.out rfl
  have zty2 := frozen_of_row _ _ 2 _ _ Rty_9.out
  have xty := heap_lt Rty_9.out
  go_wp2_with fail
  refine (dsub_yes (m := mx) (x := yx) (n := my) (y := yy) (M := Md) (E := Ed) (L9.out.get (A := A3) (c := c3) (xs := digs mx.natAbs) (by simp)) (L9.out.get (A := A5) (c := c5) (xs := digs my.natAbs) (by simp)) Dx.out Dy.out Rx.out Ry.out (t32_live HT.out L9.out) HI.out Id.out).mono ?_
  rintro e w10 ⟨A10, c10, rfl, hd, hb⟩
  have L10 := Lib.hid ((L9.out.step hb).add hd)
  clear ftx0 ztx0 ftx1 ztx1 ftx2 ztx2 xtx fty0 zty0 fty1 zty1 fty2 zty2 xty
  have Rx_10 := Lib.hid (cells_of Rx_9.out hb)
  have Ry_10 := Lib.hid (cells_of Ry_9.out hb)
  have Rz_10 := Lib.hid (cells_of Rz_9.out hb)
  have Rtx_10 := Lib.hid (cells_of Rtx_9.out hb)
  have Rty_10 := Lib.hid (cells_of Rty_9.out hb)
  have Rtz_10 := Lib.hid (cells_of Rtz_9.out hb)
  clear hb hd
  go_wp2_with fail
  obtain ⟨w11, hW⟩ : ∃ W : World, W = (w10.alloc (.cells #[.bool (decide (Md < 0)), .slice A10 (digs Md.natAbs).length c10, .int .i64 Ed] 26)) := ⟨_, rfl⟩
  rw [← hW]
  have hb : Below w10.heap.size w10 w11 := by rw [hW]; exact ((Below.refl _ _).alloc (by simp <;> omega) _)
  have L11 := Lib.hid (L10.out.step hb)
  have Rx_11 := Lib.hid (cells_of Rx_10.out hb)
  have Ry_11 := Lib.hid (cells_of Ry_10.out hb)
  have Rz_11 := Lib.hid (cells_of Rz_10.out hb)
  have Rtx_11 := Lib.hid (cells_of Rtx_10.out hb)
  have Rty_11 := Lib.hid (cells_of Rty_10.out hb)
  have Rtz_11 := Lib.hid (cells_of Rtz_10.out hb)
  have Rbd_11 := Lib.hid (show w11.heap[w10.heap.size]? = some (.cells #[.bool (decide (Md < 0)), .slice A10 (digs Md.natAbs).length c10, .int .i64 Ed] 26 (0, 0)) by rw [hW]; have := heap_alloc_new w10 (.cells #[.bool (decide (Md < 0)), .slice A10 (digs Md.natAbs).length c10, .int .i64 Ed] 26); simpa using this)
  have Gbd : w.heap.size ≤ w10.heap.size := by have := L10.out.1.size; omega
  have Nxbd : w.heap.size < w10.heap.size := by have := heap_lt Rx_10.out; omega
  have Nybd : w.heap.size + 1 < w10.heap.size := by have := heap_lt Ry_10.out; omega
  have Nzbd : w.heap.size + 1 + 1 < w10.heap.size := by have := heap_lt Rz_10.out; omega
  have Ntxbd : w3.heap.size < w10.heap.size := by have := heap_lt Rtx_10.out; omega
  have Ntybd : w5.heap.size < w10.heap.size := by have := heap_lt Rty_10.out; omega
  have Ntzbd : w7.heap.size < w10.heap.size := by have := heap_lt Rtz_10.out; omega
  clear hW hb
  clear HMx HYx LXx E0x E1x Ix HMy HYy LXy E0y E1y Iy HMz HYz LXz E0z E1z Iz HJ HI Id Gx Gy Nxy Gz Nxz Nyz Gtx Nxtx Nytx Nztx Gty Nxty Nyty Nzty Ntxty Gtz Nxtz Nytz Nztz Ntxtz Ntytz Gbd Nxbd Nybd Nzbd Ntxbd Ntybd Ntzbd Rx_11 Ry_11 Rz_11 L0 L1 L2 L3 L4 L5 L6 L7 L8 L9 L10 Rx_1 Ry_1 Rz_1 Rx_2 Ry_2 Rz_2 Rx_3 Ry_3 Rz_3 Rx_4 Ry_4 Rz_4 Rtx_4 Rx_5 Ry_5 Rz_5 Rtx_5 Rx_6 Ry_6 Rz_6 Rtx_6 Rty_6 Rx_7 Ry_7 Rz_7 Rtx_7 Rty_7 Rx_8 Ry_8 Rz_8 Rtx_8 Rty_8 Rtz_8 Rx_9 Ry_9 Rz_9 Rtx_9 Rty_9 Rtz_9 Rx_10 Ry_10 Rz_10 Rtx_10 Rty_10 Rtz_10
  refine wp_operands (W := w11) rfl 54 [32, 33, 34, 35, 36, 37, 38, 39, 40, 41, 42, 43, 44, 45, 46, 47, 48, 49, 50, 51, 52, 53, 54, 55, 56, 57, 58, 59, 60, 61, 62, 63, 64, 65, 66, 67, 68, 69, 70, 71, 72, 73, 74, 75, 76, 77, 78, 79, 80, 81, 82, 83, 84, 85] (fun i u ww => match i with | 0 => u = .bool true | 1 => u = .bool true | 2 => u = .int .i64 0 | 3 => u = .bool true | 4 => u = .bool true | 5 => u = .bool true | 6 => u = .agg #[.bool (decide (Md < 0)), .slice A10 (digs Md.natAbs).length c10, .int .i64 Ed] | 7 => u = .agg #[.bool false, .slice none 0 0, .int .i64 0] | 8 => u = .int .i64 j | 9 => u = .int .i64 j | 10 => u = .bool true | 11 => u = .bool true | 12 => u = .bool true | 13 => u = .agg #[.bool (decide (my < 0)), .slice A5 (digs my.natAbs).length c5, .int .i64 yy] | 14 => u = .agg #[.bool (decide (mx < 0)), .slice A3 (digs mx.natAbs).length c3, .int .i64 yx] | 15 => u = .int .i64 (-j) | 16 => u = .int .i64 j | 17 => u = .int .i64 (-j) | 18 => u = .bool true | 19 => u = .bool true | 20 => u = .bool true | 21 => u = .agg #[.bool (decide (mx < 0)), .slice A3 (digs mx.natAbs).length c3, .int .i64 yx] | 22 => ∃ A c, u = .agg #[.bool (decide (nx_ < 0)), .slice A (digs nx_.natAbs).length c, .int .i64 yx] ∧ Dg ww A c (digs nx_.natAbs) | 23 => u = .agg #[.bool (decide (my < 0)), .slice A5 (digs my.natAbs).length c5, .int .i64 yy] | 24 => ∃ A c, u = .agg #[.bool (decide (ny_ < 0)), .slice A (digs ny_.natAbs).length c, .int .i64 yy] ∧ Dg ww A c (digs ny_.natAbs) | 25 => u = .int .i64 (-j) | 26 => u = .int .i64 j | 27 => u = .int .i64 (-j) | 28 => u = .bool true | 29 => u = .bool true | 30 => u = .bool true | 31 => u = .int .i64 j | 32 => u = .bool true | 33 => u = .bool true | 34 => u = undef | 35 => u = undef | 36 => u = undef | 37 => u = undef | 38 => u = .bool true | 39 => u = .bool true | 40 => u = undef | 41 => u = undef | 42 => u = undef | 43 => u = undef | 44 => u = .bool true | 45 => u = .bool true | 46 => u = .bool true | 47 => u = .int .i64 j | 48 => u = .bool q | 49 => u = .agg #[.bool (decide (mx < 0)), .slice A3 (digs mx.natAbs).length c3, .int .i64 yx] | 50 => u = .agg #[.bool (decide (my < 0)), .slice A5 (digs my.natAbs).length c5, .int .i64 yy] | 51 => u = .bool q | 52 => u = .bool true | 53 => u = .bool true | _ => True) (fun _ => false)
    (by decide) (by kernel_rfl) (by kernel_rfl) (by kernel_rfl) (by decide) (by kernel_rfl) ?_ (fun _ _ _ h => by cases h) ?_ ?_
  · intro i u y y2 hi h hb
    have hi' : i = 0 ∨ i = 1 ∨ i = 2 ∨ i = 3 ∨ i = 4 ∨ i = 5 ∨ i = 6 ∨ i = 7 ∨ i = 8 ∨ i = 9 ∨ i = 10 ∨ i = 11 ∨ i = 12 ∨ i = 13 ∨ i = 14 ∨ i = 15 ∨ i = 16 ∨ i = 17 ∨ i = 18 ∨ i = 19 ∨ i = 20 ∨ i = 21 ∨ i = 22 ∨ i = 23 ∨ i = 24 ∨ i = 25 ∨ i = 26 ∨ i = 27 ∨ i = 28 ∨ i = 29 ∨ i = 30 ∨ i = 31 ∨ i = 32 ∨ i = 33 ∨ i = 34 ∨ i = 35 ∨ i = 36 ∨ i = 37 ∨ i = 38 ∨ i = 39 ∨ i = 40 ∨ i = 41 ∨ i = 42 ∨ i = 43 ∨ i = 44 ∨ i = 45 ∨ i = 46 ∨ i = 47 ∨ i = 48 ∨ i = 49 ∨ i = 50 ∨ i = 51 ∨ i = 52 ∨ i = 53 := by omega
    rcases hi' with rfl | rfl | rfl | rfl | rfl | rfl | rfl | rfl | rfl | rfl | rfl | rfl | rfl | rfl | rfl | rfl | rfl | rfl | rfl | rfl | rfl | rfl | rfl | rfl | rfl | rfl | rfl | rfl | rfl | rfl | rfl | rfl | rfl | rfl | rfl | rfl | rfl | rfl | rfl | rfl | rfl | rfl | rfl | rfl | rfl | rfl | rfl | rfl | rfl | rfl | rfl | rfl | rfl | rfl
    · exact h
    · exact h
    · exact h
    · exact h
    · exact h
    · exact h
    · exact h
    · exact h
    · exact h
    · exact h
    · exact h
    · exact h
    · exact h
    · exact h
    · exact h
    · exact h
    · exact h
    · exact h
    · exact h
    · exact h
    · exact h
    · exact h
    · obtain ⟨A, c, e, hd⟩ := h
      exact ⟨A, c, e, hd.below hb⟩
    · exact h
    · obtain ⟨A, c, e, hd⟩ := h
      exact ⟨A, c, e, hd.below hb⟩
    · exact h
    · exact h
    · exact h
    · exact h
    · exact h
    · exact h
    · exact h
    · exact h
    · exact h
    · exact h
    · exact h
    · exact h
    · exact h
    · exact h
    · exact h
    · exact h
    · exact h
    · exact h
    · exact h
    · exact h
    · exact h
    · exact h
    · exact h
    · exact h
    · exact h
    · exact h
    · exact h
    · exact h
    · exact h
  · intro i a x K hi hF hb hw hK
    have hi' : i = 0 ∨ i = 1 ∨ i = 2 ∨ i = 3 ∨ i = 4 ∨ i = 5 ∨ i = 6 ∨ i = 7 ∨ i = 8 ∨ i = 9 ∨ i = 10 ∨ i = 11 ∨ i = 12 ∨ i = 13 ∨ i = 14 ∨ i = 15 ∨ i = 16 ∨ i = 17 ∨ i = 18 ∨ i = 19 ∨ i = 20 ∨ i = 21 ∨ i = 22 ∨ i = 23 ∨ i = 24 ∨ i = 25 ∨ i = 26 ∨ i = 27 ∨ i = 28 ∨ i = 29 ∨ i = 30 ∨ i = 31 ∨ i = 32 ∨ i = 33 ∨ i = 34 ∨ i = 35 ∨ i = 36 ∨ i = 37 ∨ i = 38 ∨ i = 39 ∨ i = 40 ∨ i = 41 ∨ i = 42 ∨ i = 43 ∨ i = 44 ∨ i = 45 ∨ i = 46 ∨ i = 47 ∨ i = 48 ∨ i = 49 ∨ i = 50 ∨ i = 51 ∨ i = 52 ∨ i = 53 := by omega
    rcases hi' with rfl | rfl | rfl | rfl | rfl | rfl | rfl | rfl | rfl | rfl | rfl | rfl | rfl | rfl | rfl | rfl | rfl | rfl | rfl | rfl | rfl | rfl | rfl | rfl | rfl | rfl | rfl | rfl | rfl | rfl | rfl | rfl | rfl | rfl | rfl | rfl | rfl | rfl | rfl | rfl | rfl | rfl | rfl | rfl | rfl | rfl | rfl | rfl | rfl | rfl | rfl | rfl | rfl | rfl
    · simp only [wpOp, List.getElem?_toArray, List.getElem?_cons_zero, Region.wanted, if_true]
      refine Or.inl ?_
      have e0 : a.eval (.tmp 7) = .bool true := hF.2.2 7 (by decide)
      clear hw hF
      simp only [Oper.wp, execOp]
      rw [e0]
      go_simp
      exact hK _ x (by first | rfl | simp) (Below.refl _ _) (fun h => by cases h)
    · simp only [wpOp, List.getElem?_toArray, List.getElem?_cons_succ, List.getElem?_cons_zero, Region.wanted, if_true]
      refine Or.inl ?_
      have e0 : a.tmps.getD 32 undef = .bool true := hw 0 (by kernel_rfl)
      clear hw hF
      simp only [Oper.wp, execOp]
      go_simp
      exact hK _ x (by first | rfl | simp) (Below.refl _ _) (fun h => by cases h)
    · simp only [wpOp, List.getElem?_toArray, List.getElem?_cons_succ, List.getElem?_cons_zero]
      have eg : a.tmps.getD 33 undef = .bool true := hw 1 (by kernel_rfl)
      refine ite_yes (wanted_yes rfl (yielded_of (t := 33) (by kernel_rfl) eg)) ?_
      clear eg
      refine Or.inl ?_
      have e0 : a.eval (.tmp 13) = .int .i64 0 := hF.2.2 13 (by decide)
      clear hw hF
      simp only [Oper.wp, execOp]
      rw [e0]
      go_simp
      exact hK _ x (by first | rfl | simp) (Below.refl _ _) (fun h => by cases h)
    · simp only [wpOp, List.getElem?_toArray, List.getElem?_cons_succ, List.getElem?_cons_zero]
      have eg : a.tmps.getD 33 undef = .bool true := hw 1 (by kernel_rfl)
      refine ite_yes (wanted_yes rfl (yielded_of (t := 33) (by kernel_rfl) eg)) ?_
      clear eg
      refine Or.inl ?_
      have e0 : a.tmps.getD 34 undef = .int .i64 0 := hw 2 (by kernel_rfl)
      clear hw hF
      have g1 := G1.out
      have hq := HQ.out
      have j0 := J0.out
      have j1 := J1.out
      have qq : (q == q) = true := by simp
      have jj : (j == j) = true := by simp
      have nn : (-j == -j) = true := by simp
      have hwr : IntKind.i64.wrap (-j) = -j := by rw [IntWalk.i64_in _ (by omega)]
      simp only [Oper.wp, execOp]
      go_simp
      exact hK _ x (by first | rfl | simp) (Below.refl _ _) (fun h => by cases h)
    · simp only [wpOp, List.getElem?_toArray, List.getElem?_cons_succ, List.getElem?_cons_zero, Region.wanted, if_true]
      refine Or.inl ?_
      have e0 : a.tmps.getD 33 undef = .bool true := hw 1 (by kernel_rfl)
      have e1 : a.tmps.getD 35 undef = .bool true := hw 3 (by kernel_rfl)
      clear hw hF
      have g1 := G1.out
      have hq := HQ.out
      have j0 := J0.out
      have j1 := J1.out
      have qq : (q == q) = true := by simp
      have jj : (j == j) = true := by simp
      have nn : (-j == -j) = true := by simp
      have hwr : IntKind.i64.wrap (-j) = -j := by rw [IntWalk.i64_in _ (by omega)]
      simp only [Oper.wp, execOp]
      go_simp
      exact hK _ x (by first | rfl | simp) (Below.refl _ _) (fun h => by cases h)
    · simp only [wpOp, List.getElem?_toArray, List.getElem?_cons_succ, List.getElem?_cons_zero, Region.wanted, if_true]
      refine Or.inl ?_
      have e0 : a.tmps.getD 36 undef = .bool true := hw 4 (by kernel_rfl)
      clear hw hF
      simp only [Oper.wp, execOp]
      go_simp
      exact hK _ x (by first | rfl | simp) (Below.refl _ _) (fun h => by cases h)
    · simp only [wpOp, List.getElem?_toArray, List.getElem?_cons_succ, List.getElem?_cons_zero]
      have eg : a.tmps.getD 37 undef = .bool true := hw 5 (by kernel_rfl)
      refine ite_yes (wanted_yes rfl (yielded_of (t := 37) (by kernel_rfl) eg)) ?_
      clear eg
      refine Or.inl ?_
      have e0 : a.eval (.tmp 12) = .pointer (some ⟨w10.heap.size, 0, none⟩) := hF.2.2 12 (by decide)
      have f0 := row_cell Rbd_11.out hb 0
      have f1 := row_cell Rbd_11.out hb 1
      have f2 := row_cell Rbd_11.out hb 2
      simp only [List.getElem?_toArray, List.getElem?_cons_succ, List.getElem?_cons_zero] at f0 f1 f2
      clear hw hF
      simp only [Oper.wp, execOp]
      rw [e0]
      go_simp
      exact hK _ x (by first | rfl | simp) (Below.refl _ _) (fun h => by cases h)
    · simp only [wpOp, List.getElem?_toArray, List.getElem?_cons_succ, List.getElem?_cons_zero]
      have eg : a.tmps.getD 37 undef = .bool true := hw 5 (by kernel_rfl)
      refine ite_yes (wanted_yes rfl (yielded_of (t := 37) (by kernel_rfl) eg)) ?_
      clear eg
      refine Or.inl ?_
      clear hw hF
      simp only [Oper.wp, execOp]
      go_simp
      exact hK _ x (by first | rfl | simp) (Below.refl _ _) (fun h => by cases h)
    · simp only [wpOp, List.getElem?_toArray, List.getElem?_cons_succ, List.getElem?_cons_zero]
      have eg : a.tmps.getD 37 undef = .bool true := hw 5 (by kernel_rfl)
      refine ite_yes (wanted_yes rfl (yielded_of (t := 37) (by kernel_rfl) eg)) ?_
      clear eg
      refine Or.inl ?_
      have e0 : a.tmps.getD 38 undef = .agg #[.bool (decide (Md < 0)), .slice A10 (digs Md.natAbs).length c10, .int .i64 Ed] := hw 6 (by kernel_rfl)
      have e1 : a.tmps.getD 39 undef = .agg #[.bool false, .slice none 0 0, .int .i64 0] := hw 7 (by kernel_rfl)
      clear hw hF
      simp only [Oper.wp, execOp]
      go_simp
      refine (dcmp0 ((L11.out.step hb).get (A := A10) (c := c10) (xs := digs Md.natAbs) (by simp)) (Nat.le_trans Dd.out (by omega)) Rd.out C0.out).mono ?_
      rintro e y ⟨rfl, hbb⟩
      exact hK _ y rfl hbb (fun h => by cases h)
    · simp only [wpOp, List.getElem?_toArray, List.getElem?_cons_succ, List.getElem?_cons_zero]
      have eg : a.tmps.getD 37 undef = .bool true := hw 5 (by kernel_rfl)
      refine ite_yes (wanted_yes rfl (yielded_of (t := 37) (by kernel_rfl) eg)) ?_
      clear eg
      refine Or.inl ?_
      have e0 : a.eval (.tmp 11) = .int .i64 j := hF.2.2 11 (by decide)
      clear hw hF
      simp only [Oper.wp, execOp]
      rw [e0]
      go_simp
      exact hK _ x (by first | rfl | simp) (Below.refl _ _) (fun h => by cases h)
    · simp only [wpOp, List.getElem?_toArray, List.getElem?_cons_succ, List.getElem?_cons_zero]
      have eg : a.tmps.getD 37 undef = .bool true := hw 5 (by kernel_rfl)
      refine ite_yes (wanted_yes rfl (yielded_of (t := 37) (by kernel_rfl) eg)) ?_
      clear eg
      refine Or.inl ?_
      have e0 : a.tmps.getD 40 undef = .int .i64 j := hw 8 (by kernel_rfl)
      have e1 : a.tmps.getD 41 undef = .int .i64 j := hw 9 (by kernel_rfl)
      clear hw hF
      have g1 := G1.out
      have hq := HQ.out
      have j0 := J0.out
      have j1 := J1.out
      have qq : (q == q) = true := by simp
      have jj : (j == j) = true := by simp
      have nn : (-j == -j) = true := by simp
      have hwr : IntKind.i64.wrap (-j) = -j := by rw [IntWalk.i64_in _ (by omega)]
      simp only [Oper.wp, execOp]
      go_simp
      exact hK _ x (by first | rfl | simp) (Below.refl _ _) (fun h => by cases h)
    · simp only [wpOp, List.getElem?_toArray, List.getElem?_cons_succ, List.getElem?_cons_zero, Region.wanted, if_true]
      refine Or.inl ?_
      have e0 : a.tmps.getD 37 undef = .bool true := hw 5 (by kernel_rfl)
      have e1 : a.tmps.getD 42 undef = .bool true := hw 10 (by kernel_rfl)
      clear hw hF
      have g1 := G1.out
      have hq := HQ.out
      have j0 := J0.out
      have j1 := J1.out
      have qq : (q == q) = true := by simp
      have jj : (j == j) = true := by simp
      have nn : (-j == -j) = true := by simp
      have hwr : IntKind.i64.wrap (-j) = -j := by rw [IntWalk.i64_in _ (by omega)]
      simp only [Oper.wp, execOp]
      go_simp
      exact hK _ x (by first | rfl | simp) (Below.refl _ _) (fun h => by cases h)
    · simp only [wpOp, List.getElem?_toArray, List.getElem?_cons_succ, List.getElem?_cons_zero, Region.wanted, if_true]
      refine Or.inl ?_
      have e0 : a.tmps.getD 43 undef = .bool true := hw 11 (by kernel_rfl)
      clear hw hF
      simp only [Oper.wp, execOp]
      go_simp
      exact hK _ x (by first | rfl | simp) (Below.refl _ _) (fun h => by cases h)
    · simp only [wpOp, List.getElem?_toArray, List.getElem?_cons_succ, List.getElem?_cons_zero]
      have eg : a.tmps.getD 44 undef = .bool true := hw 12 (by kernel_rfl)
      refine ite_yes (wanted_yes rfl (yielded_of (t := 44) (by kernel_rfl) eg)) ?_
      clear eg
      refine Or.inl ?_
      have e0 : a.eval (.tmp 9) = .pointer (some ⟨w5.heap.size, 0, none⟩) := hF.2.2 9 (by decide)
      have f0 := row_cell Rty_11.out hb 0
      have f1 := row_cell Rty_11.out hb 1
      have f2 := row_cell Rty_11.out hb 2
      simp only [List.getElem?_toArray, List.getElem?_cons_succ, List.getElem?_cons_zero] at f0 f1 f2
      clear hw hF
      simp only [Oper.wp, execOp]
      rw [e0]
      go_simp
      exact hK _ x (by first | rfl | simp) (Below.refl _ _) (fun h => by cases h)
    · simp only [wpOp, List.getElem?_toArray, List.getElem?_cons_succ, List.getElem?_cons_zero]
      have eg : a.tmps.getD 44 undef = .bool true := hw 12 (by kernel_rfl)
      refine ite_yes (wanted_yes rfl (yielded_of (t := 44) (by kernel_rfl) eg)) ?_
      clear eg
      refine Or.inl ?_
      have e0 : a.eval (.tmp 8) = .pointer (some ⟨w3.heap.size, 0, none⟩) := hF.2.2 8 (by decide)
      have f0 := row_cell Rtx_11.out hb 0
      have f1 := row_cell Rtx_11.out hb 1
      have f2 := row_cell Rtx_11.out hb 2
      simp only [List.getElem?_toArray, List.getElem?_cons_succ, List.getElem?_cons_zero] at f0 f1 f2
      clear hw hF
      simp only [Oper.wp, execOp]
      rw [e0]
      go_simp
      exact hK _ x (by first | rfl | simp) (Below.refl _ _) (fun h => by cases h)
    · simp only [wpOp, List.getElem?_toArray, List.getElem?_cons_succ, List.getElem?_cons_zero]
      have eg : a.tmps.getD 44 undef = .bool true := hw 12 (by kernel_rfl)
      refine ite_yes (wanted_yes rfl (yielded_of (t := 44) (by kernel_rfl) eg)) ?_
      clear eg
      refine Or.inl ?_
      have e0 : a.tmps.getD 45 undef = .agg #[.bool (decide (my < 0)), .slice A5 (digs my.natAbs).length c5, .int .i64 yy] := hw 13 (by kernel_rfl)
      have e1 : a.tmps.getD 46 undef = .agg #[.bool (decide (mx < 0)), .slice A3 (digs mx.natAbs).length c3, .int .i64 yx] := hw 14 (by kernel_rfl)
      clear hw hF
      simp only [Oper.wp, execOp]
      go_simp
      refine (dcmp_any (m := my) (n := mx) (x := yy) (y := yx) (q := -j) ((L11.out.step hb).get (A := A5) (c := c5) (xs := digs my.natAbs) (by simp)) ((L11.out.step hb).get (A := A3) (c := c3) (xs := digs mx.natAbs) (by simp)) (Nat.le_trans Dy.out (by omega)) (Nat.le_trans Dx.out (by omega)) Ry.out Rx.out C1.out).mono ?_
      rintro e y ⟨rfl, hbb⟩
      exact hK _ y rfl hbb (fun h => by cases h)
    · simp only [wpOp, List.getElem?_toArray, List.getElem?_cons_succ, List.getElem?_cons_zero]
      have eg : a.tmps.getD 44 undef = .bool true := hw 12 (by kernel_rfl)
      refine ite_yes (wanted_yes rfl (yielded_of (t := 44) (by kernel_rfl) eg)) ?_
      clear eg
      refine Or.inl ?_
      have e0 : a.eval (.tmp 11) = .int .i64 j := hF.2.2 11 (by decide)
      clear hw hF
      simp only [Oper.wp, execOp]
      rw [e0]
      go_simp
      exact hK _ x (by first | rfl | simp) (Below.refl _ _) (fun h => by cases h)
    · simp only [wpOp, List.getElem?_toArray, List.getElem?_cons_succ, List.getElem?_cons_zero]
      have eg : a.tmps.getD 44 undef = .bool true := hw 12 (by kernel_rfl)
      refine ite_yes (wanted_yes rfl (yielded_of (t := 44) (by kernel_rfl) eg)) ?_
      clear eg
      refine Or.inl ?_
      have e0 : a.tmps.getD 48 undef = .int .i64 j := hw 16 (by kernel_rfl)
      clear hw hF
      have g1 := G1.out
      have hq := HQ.out
      have j0 := J0.out
      have j1 := J1.out
      have qq : (q == q) = true := by simp
      have jj : (j == j) = true := by simp
      have nn : (-j == -j) = true := by simp
      have hwr : IntKind.i64.wrap (-j) = -j := by rw [IntWalk.i64_in _ (by omega)]
      simp only [Oper.wp, execOp]
      go_simp
      exact hK _ x (by first | rfl | simp) (Below.refl _ _) (fun h => by cases h)
    · simp only [wpOp, List.getElem?_toArray, List.getElem?_cons_succ, List.getElem?_cons_zero]
      have eg : a.tmps.getD 44 undef = .bool true := hw 12 (by kernel_rfl)
      refine ite_yes (wanted_yes rfl (yielded_of (t := 44) (by kernel_rfl) eg)) ?_
      clear eg
      refine Or.inl ?_
      have e0 : a.tmps.getD 47 undef = .int .i64 (-j) := hw 15 (by kernel_rfl)
      have e1 : a.tmps.getD 49 undef = .int .i64 (-j) := hw 17 (by kernel_rfl)
      clear hw hF
      have g1 := G1.out
      have hq := HQ.out
      have j0 := J0.out
      have j1 := J1.out
      have qq : (q == q) = true := by simp
      have jj : (j == j) = true := by simp
      have nn : (-j == -j) = true := by simp
      have hwr : IntKind.i64.wrap (-j) = -j := by rw [IntWalk.i64_in _ (by omega)]
      simp only [Oper.wp, execOp]
      go_simp
      exact hK _ x (by first | rfl | simp) (Below.refl _ _) (fun h => by cases h)
    · simp only [wpOp, List.getElem?_toArray, List.getElem?_cons_succ, List.getElem?_cons_zero, Region.wanted, if_true]
      refine Or.inl ?_
      have e0 : a.tmps.getD 44 undef = .bool true := hw 12 (by kernel_rfl)
      have e1 : a.tmps.getD 50 undef = .bool true := hw 18 (by kernel_rfl)
      clear hw hF
      have g1 := G1.out
      have hq := HQ.out
      have j0 := J0.out
      have j1 := J1.out
      have qq : (q == q) = true := by simp
      have jj : (j == j) = true := by simp
      have nn : (-j == -j) = true := by simp
      have hwr : IntKind.i64.wrap (-j) = -j := by rw [IntWalk.i64_in _ (by omega)]
      simp only [Oper.wp, execOp]
      go_simp
      exact hK _ x (by first | rfl | simp) (Below.refl _ _) (fun h => by cases h)
    · simp only [wpOp, List.getElem?_toArray, List.getElem?_cons_succ, List.getElem?_cons_zero, Region.wanted, if_true]
      refine Or.inl ?_
      have e0 : a.tmps.getD 51 undef = .bool true := hw 19 (by kernel_rfl)
      clear hw hF
      simp only [Oper.wp, execOp]
      go_simp
      exact hK _ x (by first | rfl | simp) (Below.refl _ _) (fun h => by cases h)
    · simp only [wpOp, List.getElem?_toArray, List.getElem?_cons_succ, List.getElem?_cons_zero]
      have eg : a.tmps.getD 52 undef = .bool true := hw 20 (by kernel_rfl)
      refine ite_yes (wanted_yes rfl (yielded_of (t := 52) (by kernel_rfl) eg)) ?_
      clear eg
      refine Or.inl ?_
      have e0 : a.eval (.tmp 8) = .pointer (some ⟨w3.heap.size, 0, none⟩) := hF.2.2 8 (by decide)
      have f0 := row_cell Rtx_11.out hb 0
      have f1 := row_cell Rtx_11.out hb 1
      have f2 := row_cell Rtx_11.out hb 2
      simp only [List.getElem?_toArray, List.getElem?_cons_succ, List.getElem?_cons_zero] at f0 f1 f2
      clear hw hF
      simp only [Oper.wp, execOp]
      rw [e0]
      go_simp
      exact hK _ x (by first | rfl | simp) (Below.refl _ _) (fun h => by cases h)
    · simp only [wpOp, List.getElem?_toArray, List.getElem?_cons_succ, List.getElem?_cons_zero]
      have eg : a.tmps.getD 52 undef = .bool true := hw 20 (by kernel_rfl)
      refine ite_yes (wanted_yes rfl (yielded_of (t := 52) (by kernel_rfl) eg)) ?_
      clear eg
      refine Or.inl ?_
      have e0 : a.tmps.getD 53 undef = .agg #[.bool (decide (mx < 0)), .slice A3 (digs mx.natAbs).length c3, .int .i64 yx] := hw 21 (by kernel_rfl)
      clear hw hF
      simp only [Oper.wp, execOp]
      go_simp
      refine (NX.out A3 c3 _ ((L11.out.step hb).get (A := A3) (c := c3) (xs := digs mx.natAbs) (by simp))).mono ?_
      rintro e y ⟨A', c', rfl, hd, hbb⟩
      exact hK _ y ⟨A', c', rfl, hd⟩ hbb (fun h => by cases h)
    · simp only [wpOp, List.getElem?_toArray, List.getElem?_cons_succ, List.getElem?_cons_zero]
      have eg : a.tmps.getD 52 undef = .bool true := hw 20 (by kernel_rfl)
      refine ite_yes (wanted_yes rfl (yielded_of (t := 52) (by kernel_rfl) eg)) ?_
      clear eg
      refine Or.inl ?_
      have e0 : a.eval (.tmp 9) = .pointer (some ⟨w5.heap.size, 0, none⟩) := hF.2.2 9 (by decide)
      have f0 := row_cell Rty_11.out hb 0
      have f1 := row_cell Rty_11.out hb 1
      have f2 := row_cell Rty_11.out hb 2
      simp only [List.getElem?_toArray, List.getElem?_cons_succ, List.getElem?_cons_zero] at f0 f1 f2
      clear hw hF
      simp only [Oper.wp, execOp]
      rw [e0]
      go_simp
      exact hK _ x (by first | rfl | simp) (Below.refl _ _) (fun h => by cases h)
    · simp only [wpOp, List.getElem?_toArray, List.getElem?_cons_succ, List.getElem?_cons_zero]
      have eg : a.tmps.getD 52 undef = .bool true := hw 20 (by kernel_rfl)
      refine ite_yes (wanted_yes rfl (yielded_of (t := 52) (by kernel_rfl) eg)) ?_
      clear eg
      refine Or.inl ?_
      have e0 : a.tmps.getD 55 undef = .agg #[.bool (decide (my < 0)), .slice A5 (digs my.natAbs).length c5, .int .i64 yy] := hw 23 (by kernel_rfl)
      clear hw hF
      simp only [Oper.wp, execOp]
      go_simp
      refine (NY.out A5 c5 _ ((L11.out.step hb).get (A := A5) (c := c5) (xs := digs my.natAbs) (by simp))).mono ?_
      rintro e y ⟨A', c', rfl, hd, hbb⟩
      exact hK _ y ⟨A', c', rfl, hd⟩ hbb (fun h => by cases h)
    · simp only [wpOp, List.getElem?_toArray, List.getElem?_cons_succ, List.getElem?_cons_zero]
      have eg : a.tmps.getD 52 undef = .bool true := hw 20 (by kernel_rfl)
      refine ite_yes (wanted_yes rfl (yielded_of (t := 52) (by kernel_rfl) eg)) ?_
      clear eg
      refine Or.inl ?_
      obtain ⟨A0_, c0_, e0, d0_⟩ := hw 22 (by kernel_rfl)
      have e0 : a.tmps.getD 54 undef = _ := e0
      obtain ⟨A1_, c1_, e1, d1_⟩ := hw 24 (by kernel_rfl)
      have e1 : a.tmps.getD 56 undef = _ := e1
      clear hw hF
      simp only [Oper.wp, execOp]
      go_simp
      refine (dcmp_any (m := nx_) (n := ny_) (x := yx) (y := yy) (q := -j) d0_ d1_ LNx.out LNy.out RNx.out RNy.out C2.out).mono ?_
      rintro e y ⟨rfl, hbb⟩
      exact hK _ y rfl hbb (fun h => by cases h)
    · simp only [wpOp, List.getElem?_toArray, List.getElem?_cons_succ, List.getElem?_cons_zero]
      have eg : a.tmps.getD 52 undef = .bool true := hw 20 (by kernel_rfl)
      refine ite_yes (wanted_yes rfl (yielded_of (t := 52) (by kernel_rfl) eg)) ?_
      clear eg
      refine Or.inl ?_
      have e0 : a.eval (.tmp 11) = .int .i64 j := hF.2.2 11 (by decide)
      clear hw hF
      simp only [Oper.wp, execOp]
      rw [e0]
      go_simp
      exact hK _ x (by first | rfl | simp) (Below.refl _ _) (fun h => by cases h)
    · simp only [wpOp, List.getElem?_toArray, List.getElem?_cons_succ, List.getElem?_cons_zero]
      have eg : a.tmps.getD 52 undef = .bool true := hw 20 (by kernel_rfl)
      refine ite_yes (wanted_yes rfl (yielded_of (t := 52) (by kernel_rfl) eg)) ?_
      clear eg
      refine Or.inl ?_
      have e0 : a.tmps.getD 58 undef = .int .i64 j := hw 26 (by kernel_rfl)
      clear hw hF
      have g1 := G1.out
      have hq := HQ.out
      have j0 := J0.out
      have j1 := J1.out
      have qq : (q == q) = true := by simp
      have jj : (j == j) = true := by simp
      have nn : (-j == -j) = true := by simp
      have hwr : IntKind.i64.wrap (-j) = -j := by rw [IntWalk.i64_in _ (by omega)]
      simp only [Oper.wp, execOp]
      go_simp
      exact hK _ x (by first | rfl | simp) (Below.refl _ _) (fun h => by cases h)
    · simp only [wpOp, List.getElem?_toArray, List.getElem?_cons_succ, List.getElem?_cons_zero]
      have eg : a.tmps.getD 52 undef = .bool true := hw 20 (by kernel_rfl)
      refine ite_yes (wanted_yes rfl (yielded_of (t := 52) (by kernel_rfl) eg)) ?_
      clear eg
      refine Or.inl ?_
      have e0 : a.tmps.getD 57 undef = .int .i64 (-j) := hw 25 (by kernel_rfl)
      have e1 : a.tmps.getD 59 undef = .int .i64 (-j) := hw 27 (by kernel_rfl)
      clear hw hF
      have g1 := G1.out
      have hq := HQ.out
      have j0 := J0.out
      have j1 := J1.out
      have qq : (q == q) = true := by simp
      have jj : (j == j) = true := by simp
      have nn : (-j == -j) = true := by simp
      have hwr : IntKind.i64.wrap (-j) = -j := by rw [IntWalk.i64_in _ (by omega)]
      simp only [Oper.wp, execOp]
      go_simp
      exact hK _ x (by first | rfl | simp) (Below.refl _ _) (fun h => by cases h)
    · simp only [wpOp, List.getElem?_toArray, List.getElem?_cons_succ, List.getElem?_cons_zero, Region.wanted, if_true]
      refine Or.inl ?_
      have e0 : a.tmps.getD 52 undef = .bool true := hw 20 (by kernel_rfl)
      have e1 : a.tmps.getD 60 undef = .bool true := hw 28 (by kernel_rfl)
      clear hw hF
      have g1 := G1.out
      have hq := HQ.out
      have j0 := J0.out
      have j1 := J1.out
      have qq : (q == q) = true := by simp
      have jj : (j == j) = true := by simp
      have nn : (-j == -j) = true := by simp
      have hwr : IntKind.i64.wrap (-j) = -j := by rw [IntWalk.i64_in _ (by omega)]
      simp only [Oper.wp, execOp]
      go_simp
      exact hK _ x (by first | rfl | simp) (Below.refl _ _) (fun h => by cases h)
    · simp only [wpOp, List.getElem?_toArray, List.getElem?_cons_succ, List.getElem?_cons_zero, Region.wanted, if_true]
      refine Or.inl ?_
      have e0 : a.tmps.getD 61 undef = .bool true := hw 29 (by kernel_rfl)
      clear hw hF
      simp only [Oper.wp, execOp]
      go_simp
      exact hK _ x (by first | rfl | simp) (Below.refl _ _) (fun h => by cases h)
    · simp only [wpOp, List.getElem?_toArray, List.getElem?_cons_succ, List.getElem?_cons_zero]
      have eg : a.tmps.getD 62 undef = .bool true := hw 30 (by kernel_rfl)
      refine ite_yes (wanted_yes rfl (yielded_of (t := 62) (by kernel_rfl) eg)) ?_
      clear eg
      refine Or.inl ?_
      have e0 : a.eval (.tmp 11) = .int .i64 j := hF.2.2 11 (by decide)
      clear hw hF
      simp only [Oper.wp, execOp]
      rw [e0]
      go_simp
      exact hK _ x (by first | rfl | simp) (Below.refl _ _) (fun h => by cases h)
    · simp only [wpOp, List.getElem?_toArray, List.getElem?_cons_succ, List.getElem?_cons_zero]
      have eg : a.tmps.getD 62 undef = .bool true := hw 30 (by kernel_rfl)
      refine ite_yes (wanted_yes rfl (yielded_of (t := 62) (by kernel_rfl) eg)) ?_
      clear eg
      refine Or.inl ?_
      have e0 : a.tmps.getD 63 undef = .int .i64 j := hw 31 (by kernel_rfl)
      clear hw hF
      have g1 := G1.out
      have hq := HQ.out
      have j0 := J0.out
      have j1 := J1.out
      have qq : (q == q) = true := by simp
      have jj : (j == j) = true := by simp
      have nn : (-j == -j) = true := by simp
      have hwr : IntKind.i64.wrap (-j) = -j := by rw [IntWalk.i64_in _ (by omega)]
      simp only [Oper.wp, execOp]
      go_simp
      exact hK _ x (by first | rfl | simp) (Below.refl _ _) (fun h => by cases h)
    · simp only [wpOp, List.getElem?_toArray, List.getElem?_cons_succ, List.getElem?_cons_zero]
      have eg : a.tmps.getD 62 undef = .bool true := hw 30 (by kernel_rfl)
      refine ite_yes (wanted_yes rfl (yielded_of (t := 62) (by kernel_rfl) eg)) ?_
      clear eg
      refine Or.inl ?_
      have e0 : a.tmps.getD 64 undef = .bool true := hw 32 (by kernel_rfl)
      clear hw hF
      simp only [Oper.wp, execOp]
      go_simp
      exact hK _ x (by first | rfl | simp) (Below.refl _ _) (fun h => by cases h)
    · simp only [wpOp, List.getElem?_toArray, List.getElem?_cons_succ, List.getElem?_cons_zero]
      have eg : a.tmps.getD 65 undef = .bool true := hw 33 (by kernel_rfl)
      refine ite_not (wanted_not rfl (yielded_of (t := 65) (by kernel_rfl) eg)) ?_
      exact hK _ x rfl (Below.refl _ _) (fun h => by cases h)
    · simp only [wpOp, List.getElem?_toArray, List.getElem?_cons_succ, List.getElem?_cons_zero]
      have eg : a.tmps.getD 65 undef = .bool true := hw 33 (by kernel_rfl)
      refine ite_not (wanted_not rfl (yielded_of (t := 65) (by kernel_rfl) eg)) ?_
      exact hK _ x rfl (Below.refl _ _) (fun h => by cases h)
    · simp only [wpOp, List.getElem?_toArray, List.getElem?_cons_succ, List.getElem?_cons_zero]
      have eg : a.tmps.getD 65 undef = .bool true := hw 33 (by kernel_rfl)
      refine ite_not (wanted_not rfl (yielded_of (t := 65) (by kernel_rfl) eg)) ?_
      exact hK _ x rfl (Below.refl _ _) (fun h => by cases h)
    · simp only [wpOp, List.getElem?_toArray, List.getElem?_cons_succ, List.getElem?_cons_zero]
      have eg : a.tmps.getD 65 undef = .bool true := hw 33 (by kernel_rfl)
      refine ite_not (wanted_not rfl (yielded_of (t := 65) (by kernel_rfl) eg)) ?_
      exact hK _ x rfl (Below.refl _ _) (fun h => by cases h)
    · simp only [wpOp, List.getElem?_toArray, List.getElem?_cons_succ, List.getElem?_cons_zero]
      have eg : a.tmps.getD 62 undef = .bool true := hw 30 (by kernel_rfl)
      refine ite_yes (wanted_yes rfl (yielded_of (t := 62) (by kernel_rfl) eg)) ?_
      clear eg
      refine Or.inl ?_
      have e0 : a.tmps.getD 65 undef = .bool true := hw 33 (by kernel_rfl)
      clear hw hF
      have g1 := G1.out
      have hq := HQ.out
      have j0 := J0.out
      have j1 := J1.out
      have qq : (q == q) = true := by simp
      have jj : (j == j) = true := by simp
      have nn : (-j == -j) = true := by simp
      have hwr : IntKind.i64.wrap (-j) = -j := by rw [IntWalk.i64_in _ (by omega)]
      simp only [Oper.wp, execOp]
      go_simp
      exact hK _ x (by first | rfl | simp) (Below.refl _ _) (fun h => by cases h)
    · simp only [wpOp, List.getElem?_toArray, List.getElem?_cons_succ, List.getElem?_cons_zero]
      have eg : a.tmps.getD 62 undef = .bool true := hw 30 (by kernel_rfl)
      refine ite_yes (wanted_yes rfl (yielded_of (t := 62) (by kernel_rfl) eg)) ?_
      clear eg
      refine Or.inl ?_
      have e0 : a.tmps.getD 70 undef = .bool true := hw 38 (by kernel_rfl)
      clear hw hF
      simp only [Oper.wp, execOp]
      go_simp
      exact hK _ x (by first | rfl | simp) (Below.refl _ _) (fun h => by cases h)
    · simp only [wpOp, List.getElem?_toArray, List.getElem?_cons_succ, List.getElem?_cons_zero]
      have eg : a.tmps.getD 71 undef = .bool true := hw 39 (by kernel_rfl)
      refine ite_not (wanted_not rfl (yielded_of (t := 71) (by kernel_rfl) eg)) ?_
      exact hK _ x rfl (Below.refl _ _) (fun h => by cases h)
    · simp only [wpOp, List.getElem?_toArray, List.getElem?_cons_succ, List.getElem?_cons_zero]
      have eg : a.tmps.getD 71 undef = .bool true := hw 39 (by kernel_rfl)
      refine ite_not (wanted_not rfl (yielded_of (t := 71) (by kernel_rfl) eg)) ?_
      exact hK _ x rfl (Below.refl _ _) (fun h => by cases h)
    · simp only [wpOp, List.getElem?_toArray, List.getElem?_cons_succ, List.getElem?_cons_zero]
      have eg : a.tmps.getD 71 undef = .bool true := hw 39 (by kernel_rfl)
      refine ite_not (wanted_not rfl (yielded_of (t := 71) (by kernel_rfl) eg)) ?_
      exact hK _ x rfl (Below.refl _ _) (fun h => by cases h)
    · simp only [wpOp, List.getElem?_toArray, List.getElem?_cons_succ, List.getElem?_cons_zero]
      have eg : a.tmps.getD 71 undef = .bool true := hw 39 (by kernel_rfl)
      refine ite_not (wanted_not rfl (yielded_of (t := 71) (by kernel_rfl) eg)) ?_
      exact hK _ x rfl (Below.refl _ _) (fun h => by cases h)
    · simp only [wpOp, List.getElem?_toArray, List.getElem?_cons_succ, List.getElem?_cons_zero]
      have eg : a.tmps.getD 62 undef = .bool true := hw 30 (by kernel_rfl)
      refine ite_yes (wanted_yes rfl (yielded_of (t := 62) (by kernel_rfl) eg)) ?_
      clear eg
      refine Or.inl ?_
      have e0 : a.tmps.getD 71 undef = .bool true := hw 39 (by kernel_rfl)
      clear hw hF
      have g1 := G1.out
      have hq := HQ.out
      have j0 := J0.out
      have j1 := J1.out
      have qq : (q == q) = true := by simp
      have jj : (j == j) = true := by simp
      have nn : (-j == -j) = true := by simp
      have hwr : IntKind.i64.wrap (-j) = -j := by rw [IntWalk.i64_in _ (by omega)]
      simp only [Oper.wp, execOp]
      go_simp
      exact hK _ x (by first | rfl | simp) (Below.refl _ _) (fun h => by cases h)
    · simp only [wpOp, List.getElem?_toArray, List.getElem?_cons_succ, List.getElem?_cons_zero, Region.wanted, if_true]
      refine Or.inl ?_
      have e0 : a.tmps.getD 62 undef = .bool true := hw 30 (by kernel_rfl)
      have e1 : a.tmps.getD 76 undef = .bool true := hw 44 (by kernel_rfl)
      clear hw hF
      have g1 := G1.out
      have hq := HQ.out
      have j0 := J0.out
      have j1 := J1.out
      have qq : (q == q) = true := by simp
      have jj : (j == j) = true := by simp
      have nn : (-j == -j) = true := by simp
      have hwr : IntKind.i64.wrap (-j) = -j := by rw [IntWalk.i64_in _ (by omega)]
      simp only [Oper.wp, execOp]
      go_simp
      exact hK _ x (by first | rfl | simp) (Below.refl _ _) (fun h => by cases h)
    · simp only [wpOp, List.getElem?_toArray, List.getElem?_cons_succ, List.getElem?_cons_zero, Region.wanted, if_true]
      refine Or.inl ?_
      have e0 : a.tmps.getD 77 undef = .bool true := hw 45 (by kernel_rfl)
      clear hw hF
      simp only [Oper.wp, execOp]
      go_simp
      exact hK _ x (by first | rfl | simp) (Below.refl _ _) (fun h => by cases h)
    · simp only [wpOp, List.getElem?_toArray, List.getElem?_cons_succ, List.getElem?_cons_zero]
      have eg : a.tmps.getD 78 undef = .bool true := hw 46 (by kernel_rfl)
      refine ite_yes (wanted_yes rfl (yielded_of (t := 78) (by kernel_rfl) eg)) ?_
      clear eg
      refine Or.inl ?_
      have e0 : a.eval (.tmp 11) = .int .i64 j := hF.2.2 11 (by decide)
      clear hw hF
      simp only [Oper.wp, execOp]
      rw [e0]
      go_simp
      exact hK _ x (by first | rfl | simp) (Below.refl _ _) (fun h => by cases h)
    · simp only [wpOp, List.getElem?_toArray, List.getElem?_cons_succ, List.getElem?_cons_zero]
      have eg : a.tmps.getD 78 undef = .bool true := hw 46 (by kernel_rfl)
      refine ite_yes (wanted_yes rfl (yielded_of (t := 78) (by kernel_rfl) eg)) ?_
      clear eg
      refine Or.inl ?_
      have e0 : a.tmps.getD 79 undef = .int .i64 j := hw 47 (by kernel_rfl)
      clear hw hF
      have g1 := G1.out
      have hq := HQ.out
      have j0 := J0.out
      have j1 := J1.out
      have qq : (q == q) = true := by simp
      have jj : (j == j) = true := by simp
      have nn : (-j == -j) = true := by simp
      have hwr : IntKind.i64.wrap (-j) = -j := by rw [IntWalk.i64_in _ (by omega)]
      simp only [Oper.wp, execOp]
      go_simp
      exact hK _ x (by first | rfl | simp) (Below.refl _ _) (fun h => by cases h)
    · simp only [wpOp, List.getElem?_toArray, List.getElem?_cons_succ, List.getElem?_cons_zero]
      have eg : a.tmps.getD 78 undef = .bool true := hw 46 (by kernel_rfl)
      refine ite_yes (wanted_yes rfl (yielded_of (t := 78) (by kernel_rfl) eg)) ?_
      clear eg
      refine Or.inl ?_
      have e0 : a.eval (.tmp 8) = .pointer (some ⟨w3.heap.size, 0, none⟩) := hF.2.2 8 (by decide)
      have f0 := row_cell Rtx_11.out hb 0
      have f1 := row_cell Rtx_11.out hb 1
      have f2 := row_cell Rtx_11.out hb 2
      simp only [List.getElem?_toArray, List.getElem?_cons_succ, List.getElem?_cons_zero] at f0 f1 f2
      clear hw hF
      simp only [Oper.wp, execOp]
      rw [e0]
      go_simp
      exact hK _ x (by first | rfl | simp) (Below.refl _ _) (fun h => by cases h)
    · simp only [wpOp, List.getElem?_toArray, List.getElem?_cons_succ, List.getElem?_cons_zero]
      have eg : a.tmps.getD 78 undef = .bool true := hw 46 (by kernel_rfl)
      refine ite_yes (wanted_yes rfl (yielded_of (t := 78) (by kernel_rfl) eg)) ?_
      clear eg
      refine Or.inl ?_
      have e0 : a.eval (.tmp 9) = .pointer (some ⟨w5.heap.size, 0, none⟩) := hF.2.2 9 (by decide)
      have f0 := row_cell Rty_11.out hb 0
      have f1 := row_cell Rty_11.out hb 1
      have f2 := row_cell Rty_11.out hb 2
      simp only [List.getElem?_toArray, List.getElem?_cons_succ, List.getElem?_cons_zero] at f0 f1 f2
      clear hw hF
      simp only [Oper.wp, execOp]
      rw [e0]
      go_simp
      exact hK _ x (by first | rfl | simp) (Below.refl _ _) (fun h => by cases h)
    · simp only [wpOp, List.getElem?_toArray, List.getElem?_cons_succ, List.getElem?_cons_zero]
      have eg : a.tmps.getD 78 undef = .bool true := hw 46 (by kernel_rfl)
      refine ite_yes (wanted_yes rfl (yielded_of (t := 78) (by kernel_rfl) eg)) ?_
      clear eg
      refine Or.inl ?_
      have e0 : a.tmps.getD 81 undef = .agg #[.bool (decide (mx < 0)), .slice A3 (digs mx.natAbs).length c3, .int .i64 yx] := hw 49 (by kernel_rfl)
      have e1 : a.tmps.getD 82 undef = .agg #[.bool (decide (my < 0)), .slice A5 (digs my.natAbs).length c5, .int .i64 yy] := hw 50 (by kernel_rfl)
      clear hw hF
      simp only [Oper.wp, execOp]
      go_simp
      refine (dsame_d (m := mx) (n := my) (x := yx) (y := yy) (q := q) ((L11.out.step hb).get (A := A3) (c := c3) (xs := digs mx.natAbs) (by simp)) ((L11.out.step hb).get (A := A5) (c := c5) (xs := digs my.natAbs) (by simp)) Dx.out HS.out).mono ?_
      rintro e y ⟨rfl, hbb⟩
      exact hK _ y rfl hbb (fun h => by cases h)
    · simp only [wpOp, List.getElem?_toArray, List.getElem?_cons_succ, List.getElem?_cons_zero]
      have eg : a.tmps.getD 78 undef = .bool true := hw 46 (by kernel_rfl)
      refine ite_yes (wanted_yes rfl (yielded_of (t := 78) (by kernel_rfl) eg)) ?_
      clear eg
      refine Or.inl ?_
      have e0 : a.tmps.getD 80 undef = .bool q := hw 48 (by kernel_rfl)
      have e1 : a.tmps.getD 83 undef = .bool q := hw 51 (by kernel_rfl)
      clear hw hF
      have g1 := G1.out
      have hq := HQ.out
      have j0 := J0.out
      have j1 := J1.out
      have qq : (q == q) = true := by simp
      have jj : (j == j) = true := by simp
      have nn : (-j == -j) = true := by simp
      have hwr : IntKind.i64.wrap (-j) = -j := by rw [IntWalk.i64_in _ (by omega)]
      simp only [Oper.wp, execOp]
      go_simp
      exact hK _ x (by first | rfl | simp) (Below.refl _ _) (fun h => by cases h)
    · simp only [wpOp, List.getElem?_toArray, List.getElem?_cons_succ, List.getElem?_cons_zero, Region.wanted, if_true]
      refine Or.inl ?_
      have e0 : a.tmps.getD 78 undef = .bool true := hw 46 (by kernel_rfl)
      have e1 : a.tmps.getD 84 undef = .bool true := hw 52 (by kernel_rfl)
      clear hw hF
      have g1 := G1.out
      have hq := HQ.out
      have j0 := J0.out
      have j1 := J1.out
      have qq : (q == q) = true := by simp
      have jj : (j == j) = true := by simp
      have nn : (-j == -j) = true := by simp
      have hwr : IntKind.i64.wrap (-j) = -j := by rw [IntWalk.i64_in _ (by omega)]
      simp only [Oper.wp, execOp]
      go_simp
      exact hK _ x (by first | rfl | simp) (Below.refl _ _) (fun h => by cases h)
  · intro a x hF hb hR _
    have e0 : a.tmps.getD 32 undef = .bool true := hR 0 (by decide)
    have e1 : a.tmps.getD 33 undef = .bool true := hR 1 (by decide)
    have e2 : a.tmps.getD 34 undef = .int .i64 0 := hR 2 (by decide)
    have e3 : a.tmps.getD 35 undef = .bool true := hR 3 (by decide)
    have e4 : a.tmps.getD 36 undef = .bool true := hR 4 (by decide)
    have e5 : a.tmps.getD 37 undef = .bool true := hR 5 (by decide)
    have e6 : a.tmps.getD 38 undef = .agg #[.bool (decide (Md < 0)), .slice A10 (digs Md.natAbs).length c10, .int .i64 Ed] := hR 6 (by decide)
    have e7 : a.tmps.getD 39 undef = .agg #[.bool false, .slice none 0 0, .int .i64 0] := hR 7 (by decide)
    have e8 : a.tmps.getD 40 undef = .int .i64 j := hR 8 (by decide)
    have e9 : a.tmps.getD 41 undef = .int .i64 j := hR 9 (by decide)
    have e10 : a.tmps.getD 42 undef = .bool true := hR 10 (by decide)
    have e11 : a.tmps.getD 43 undef = .bool true := hR 11 (by decide)
    have e12 : a.tmps.getD 44 undef = .bool true := hR 12 (by decide)
    have e13 : a.tmps.getD 45 undef = .agg #[.bool (decide (my < 0)), .slice A5 (digs my.natAbs).length c5, .int .i64 yy] := hR 13 (by decide)
    have e14 : a.tmps.getD 46 undef = .agg #[.bool (decide (mx < 0)), .slice A3 (digs mx.natAbs).length c3, .int .i64 yx] := hR 14 (by decide)
    have e15 : a.tmps.getD 47 undef = .int .i64 (-j) := hR 15 (by decide)
    have e16 : a.tmps.getD 48 undef = .int .i64 j := hR 16 (by decide)
    have e17 : a.tmps.getD 49 undef = .int .i64 (-j) := hR 17 (by decide)
    have e18 : a.tmps.getD 50 undef = .bool true := hR 18 (by decide)
    have e19 : a.tmps.getD 51 undef = .bool true := hR 19 (by decide)
    have e20 : a.tmps.getD 52 undef = .bool true := hR 20 (by decide)
    have e21 : a.tmps.getD 53 undef = .agg #[.bool (decide (mx < 0)), .slice A3 (digs mx.natAbs).length c3, .int .i64 yx] := hR 21 (by decide)
    obtain ⟨_, _, e22, _⟩ := hR 22 (by decide)
    have e22 : a.tmps.getD 54 undef = _ := e22
    have e23 : a.tmps.getD 55 undef = .agg #[.bool (decide (my < 0)), .slice A5 (digs my.natAbs).length c5, .int .i64 yy] := hR 23 (by decide)
    obtain ⟨_, _, e24, _⟩ := hR 24 (by decide)
    have e24 : a.tmps.getD 56 undef = _ := e24
    have e25 : a.tmps.getD 57 undef = .int .i64 (-j) := hR 25 (by decide)
    have e26 : a.tmps.getD 58 undef = .int .i64 j := hR 26 (by decide)
    have e27 : a.tmps.getD 59 undef = .int .i64 (-j) := hR 27 (by decide)
    have e28 : a.tmps.getD 60 undef = .bool true := hR 28 (by decide)
    have e29 : a.tmps.getD 61 undef = .bool true := hR 29 (by decide)
    have e30 : a.tmps.getD 62 undef = .bool true := hR 30 (by decide)
    have e31 : a.tmps.getD 63 undef = .int .i64 j := hR 31 (by decide)
    have e32 : a.tmps.getD 64 undef = .bool true := hR 32 (by decide)
    have e33 : a.tmps.getD 65 undef = .bool true := hR 33 (by decide)
    have e34 : a.tmps.getD 66 undef = undef := hR 34 (by decide)
    have e35 : a.tmps.getD 67 undef = undef := hR 35 (by decide)
    have e36 : a.tmps.getD 68 undef = undef := hR 36 (by decide)
    have e37 : a.tmps.getD 69 undef = undef := hR 37 (by decide)
    have e38 : a.tmps.getD 70 undef = .bool true := hR 38 (by decide)
    have e39 : a.tmps.getD 71 undef = .bool true := hR 39 (by decide)
    have e40 : a.tmps.getD 72 undef = undef := hR 40 (by decide)
    have e41 : a.tmps.getD 73 undef = undef := hR 41 (by decide)
    have e42 : a.tmps.getD 74 undef = undef := hR 42 (by decide)
    have e43 : a.tmps.getD 75 undef = undef := hR 43 (by decide)
    have e44 : a.tmps.getD 76 undef = .bool true := hR 44 (by decide)
    have e45 : a.tmps.getD 77 undef = .bool true := hR 45 (by decide)
    have e46 : a.tmps.getD 78 undef = .bool true := hR 46 (by decide)
    have e47 : a.tmps.getD 79 undef = .int .i64 j := hR 47 (by decide)
    have e48 : a.tmps.getD 80 undef = .bool q := hR 48 (by decide)
    have e49 : a.tmps.getD 81 undef = .agg #[.bool (decide (mx < 0)), .slice A3 (digs mx.natAbs).length c3, .int .i64 yx] := hR 49 (by decide)
    have e50 : a.tmps.getD 82 undef = .agg #[.bool (decide (my < 0)), .slice A5 (digs my.natAbs).length c5, .int .i64 yy] := hR 50 (by decide)
    have e51 : a.tmps.getD 83 undef = .bool q := hR 51 (by decide)
    have e52 : a.tmps.getD 84 undef = .bool true := hR 52 (by decide)
    have e53 : a.tmps.getD 85 undef = .bool true := hR 53 (by decide)
    rw [hF.fold (by kernel_rfl)]
    simp only [List.foldl_cons, List.foldl_nil, e0, e1, e2, e3, e4, e5, e6, e7, e8, e9, e10, e11, e12, e13, e14, e15, e16, e17, e18, e19, e20, e21, e22, e23, e24, e25, e26, e27, e28, e29, e30, e31, e32, e33, e34, e35, e36, e37, e38, e39, e40, e41, e42, e43, e44, e45, e46, e47, e48, e49, e50, e51, e52, e53]
    simp only [Act.put, List.setIfInBounds_toArray, List.set_cons_zero, List.set_cons_succ]
    change wpOps _ _ _ [54] _ _
    simp only [wpOps_cons]
    clear e0 e1 e2 e3 e4 e5 e6 e7 e8 e9 e10 e11 e12 e13 e14 e15 e16 e17 e18 e19 e20 e21 e22 e23 e24 e25 e26 e27 e28 e29 e30 e31 e32 e33 e34 e35 e36 e37 e38 e39 e40 e41 e42 e43 e44 e45 e46 e47 e48 e49 e50 e51 e52 e53 hR hF
    have HE := Lib.hid (L11.out.step hb)
    simp only [wpOp, List.getElem?_toArray, List.getElem?_cons_succ, List.getElem?_cons_zero, Region.wanted, if_true]
    refine Or.inl ?_
    simp only [Oper.wp, execOp]
    go_simp
    try simp only [wpOps]
    go_wp2
    go_ret
    exact ⟨rfl, HE.out.1⟩
end Go.Proofs.YtnfafgpnnpapdaaDoor
end

section
/-
  DyadOrder: a case.
-/
namespace Go.Proofs.YtnfafgpnnpapdaaDoor
open Go.RowKit
set_option linter.unusedSimpArgs false
set_option linter.unusedVariables false
set_option maxHeartbeats 8000000 in
set_option maxRecDepth 100000 in
theorem dyadOrder_y  (Ax : Option Addr) (cx : Nat) (sx : Bool) (xsx : List Nat) (ex : Int) (Ay : Option Addr) (cy : Nat) (sy : Bool) (xsy : List Nat) (ey : Int) (Az : Option Addr) (cz : Nat) (sz : Bool) (xsz : List Nat) (ez : Int) (w : World)  (hx : Dg w Ax cx xsx) (lx : xsx.length ≤ 9223372036854775807) (ex0 : -9223372036854775808 ≤ ex) (ex1 : ex ≤ 9223372036854775807) (hy : Dg w Ay cy xsy) (ly : xsy.length ≤ 9223372036854775807) (ey0 : -9223372036854775808 ≤ ey) (ey1 : ey ≤ 9223372036854775807) (hz : Dg w Az cz xsz) (lz : xsz.length ≤ 9223372036854775807) (ez0 : -9223372036854775808 ≤ ez) (ez1 : ez ≤ 9223372036854775807) (hT : T32 w) (c1 : ¬ 0 < cmpd (dv (nm (sg sx (val (xsx.take 6)))) (nx (sg sx (val (xsx.take 6))) (tameE ex))) (dv (nm (sg sy (val (xsy.take 6)))) (nx (sg sy (val (xsy.take 6))) (tameE ey)))) (c2 : 0 < cmpd (dv (nm (sg sy (val (xsy.take 6)))) (nx (sg sy (val (xsy.take 6))) (tameE ey))) (dv (nm (sg sz (val (xsz.take 6)))) (nx (sg sz (val (xsz.take 6))) (tameE ez)))):
    Calls Tryd.prog 13 #[.agg #[.bool sx, .slice Ax xsx.length cx, .int .i64 ex], .agg #[.bool sy, .slice Ay xsy.length cy, .int .i64 ey], .agg #[.bool sz, .slice Az xsz.length cz, .int .i64 ez]] w fun e w' => e = .returned (.bool true) ∧ Below w.heap.size w w' := by
  obtain ⟨mx, hmx⟩ : ∃ m, nm (sg sx (val (xsx.take 6))) = m := ⟨_, rfl⟩
  obtain ⟨yx, hyx⟩ : ∃ m, nx (sg sx (val (xsx.take 6))) (tameE ex) = m := ⟨_, rfl⟩
  have tx : Tm mx yx := hmx ▸ hyx ▸ tame_tm hx.2.1
  have bx := tx.bd
  have HMx := Lib.hid hmx
  have HYx := Lib.hid hyx
  have LXx := Lib.hid lx
  have E0x := Lib.hid ex0
  have E1x := Lib.hid ex1
  have Rx := Lib.hid tx.rt
  have Ix := Lib.hid tx.inR
  have Dx := Lib.hid (inr_len tx.inR)
  obtain ⟨my, hmy⟩ : ∃ m, nm (sg sy (val (xsy.take 6))) = m := ⟨_, rfl⟩
  obtain ⟨yy, hyy⟩ : ∃ m, nx (sg sy (val (xsy.take 6))) (tameE ey) = m := ⟨_, rfl⟩
  have ty : Tm my yy := hmy ▸ hyy ▸ tame_tm hy.2.1
  skip
  have HMy := Lib.hid hmy
  have HYy := Lib.hid hyy
  have LXy := Lib.hid ly
  have E0y := Lib.hid ey0
  have E1y := Lib.hid ey1
  have Ry := Lib.hid ty.rt
  have Iy := Lib.hid ty.inR
  have Dy := Lib.hid (inr_len ty.inR)
  obtain ⟨mz, hmz⟩ : ∃ m, nm (sg sz (val (xsz.take 6))) = m := ⟨_, rfl⟩
  obtain ⟨yz, hyz⟩ : ∃ m, nx (sg sz (val (xsz.take 6))) (tameE ez) = m := ⟨_, rfl⟩
  have tz : Tm mz yz := hmz ▸ hyz ▸ tame_tm hz.2.1
  have bz := tz.bd
  have HMz := Lib.hid hmz
  have HYz := Lib.hid hyz
  have LXz := Lib.hid lz
  have E0z := Lib.hid ez0
  have E1z := Lib.hid ez1
  have Rz := Lib.hid tz.rt
  have Iz := Lib.hid tz.inR
  have Dz := Lib.hid (inr_len tz.inR)
  rw [hmx, hyx, hmy, hyy] at c1
  rw [hmy, hyy, hmz, hyz] at c2
  have byy := ty.bd
  obtain ⟨Md, Ed, i1⟩ := isD_sub mx yx my yy
  have b1 := bx.sub byy i1
  obtain ⟨j, hj⟩ : ∃ c, cmpd (dv mx yx) (dv my yy) = c := ⟨_, rfl⟩
  rw [hj] at c1
  have j0 : -1 ≤ j ∧ j ≤ 1 := by rw [← hj]; unfold cmpd; split <;> (try split) <;> omega
  have J0 := Lib.hid j0.1
  have J1 := Lib.hid j0.2
  have HJ := Lib.hid hj
  have HI := Lib.hid i1
  have C0 := Lib.hid (show cmpd (dv Md Ed) 0 = j by rw [i1.2, cmpd_sub]; exact hj)
  have C1 := Lib.hid (show cmpd (dv my yy) (dv mx yx) = -j by rw [cmpd_swap, hj])
  obtain ⟨nx_, hnx⟩ : ∃ z, -mx = z := ⟨_, rfl⟩
  obtain ⟨ny_, hny⟩ : ∃ z, -my = z := ⟨_, rfl⟩
  have C2 := Lib.hid (show cmpd (dv nx_ yx) (dv ny_ yy) = -j by rw [← hnx, ← hny, dv_neg, dv_neg, cmpd_neg, hj])
  have NX := Lib.hid (fun A c W (h : Dg W A c (digs mx.natAbs)) => neg_yes A c mx yx W h (Nat.le_trans Dx.out (by omega)) Rx.out)
  have NY := Lib.hid (fun A c W (h : Dg W A c (digs my.natAbs)) => neg_yes A c my yy W h (Nat.le_trans Dy.out (by omega)) Ry.out)
  have RNx := Lib.hid (rt_neg Rx.out)
  have RNy := Lib.hid (rt_neg Ry.out)
  have LNx := Lib.hid (show (digs nx_.natAbs).length ≤ 400000 by rw [← hnx, Int.natAbs_neg]; exact Nat.le_trans Dx.out (by omega))
  have LNy := Lib.hid (show (digs ny_.natAbs).length ≤ 400000 by rw [← hny, Int.natAbs_neg]; exact Nat.le_trans Dy.out (by omega))
  rw [hnx] at NX RNx
  rw [hny] at NY RNy
  have G1 := Lib.hid (show decide (0 < j) = false by simp; omega)
  obtain ⟨q, hq⟩ : ∃ q, (j == 0) = q := ⟨_, rfl⟩
  have HQ := Lib.hid hq
  have HS := Lib.hid (show decide (mx = my ∧ yx = yy) = q by rw [← hq, ← hj, Bool.eq_iff_iff]; simp only [beq_iff_eq, decide_eq_true_eq]; rw [cmpd_zero]; constructor; (rintro ⟨h1, h2⟩; rw [h1, h2]); exact fun h => nf_inj tx.1 ty.1 h)
  obtain ⟨j2, hj2⟩ : ∃ c, cmpd (dv my yy) (dv mz yz) = c := ⟨_, rfl⟩
  rw [hj2] at c2
  have C3 := Lib.hid hj2
  have G2 := Lib.hid (show decide (0 < j2) = true by simp; omega)
  have Rd := Lib.hid (Bd.rt b1 (by omega) (by omega))
  have Id := Lib.hid (Bd.inR b1 (by omega) (by omega))
  have Dd := Lib.hid (inr_len Id.out)
  have HT := Lib.hid hT
  clear hT
  have L0 := Lib.hid ((((live_start w).add hx).add hy).add hz)
  clear hx lx ex0 ex1 hmx hyx tx bx hy ly ey0 ey1 hmy hyy ty hz lz ez0 ez1 hmz hyz tz bz byy i1 b1 hj j0 c1 hnx hny hq c2 hj2
  go_enter Tryd.func13, Tryd.ntmps13
  go_wp2_with fail
  obtain ⟨v1, hW⟩ : ∃ W : World, W = (((w.alloc (.cells #[.bool sx, .slice Ax xsx.length cx, .int .i64 ex] 26)).alloc (.cells #[.bool sy, .slice Ay xsy.length cy, .int .i64 ey] 26)).alloc (.cells #[.bool sz, .slice Az xsz.length cz, .int .i64 ez] 26)) := ⟨_, rfl⟩
  rw [← hW]
  have hb : Below w.heap.size w v1 := by rw [hW]; exact ((((Below.refl _ _).alloc (by simp <;> omega) _).alloc (by simp <;> omega) _).alloc (by simp <;> omega) _)
  have L1 := Lib.hid (L0.out.step hb)
  have Rx_1 := Lib.hid (show v1.heap[w.heap.size]? = some (.cells #[.bool sx, .slice Ax xsx.length cx, .int .i64 ex] 26 (0, 0)) by rw [hW]; have := heap_alloc_new w (.cells #[.bool sx, .slice Ax xsx.length cx, .int .i64 ex] 26); rw [heap_alloc_old _ _ (by simp <;> omega)]; rw [heap_alloc_old _ _ (by simp <;> omega)]; simpa using this)
  have Gx : w.heap.size ≤ w.heap.size := by have := L0.out.1.size; omega
  have Ry_1 := Lib.hid (show v1.heap[w.heap.size + 1]? = some (.cells #[.bool sy, .slice Ay xsy.length cy, .int .i64 ey] 26 (0, 0)) by rw [hW]; have := heap_alloc_new (w.alloc (.cells #[.bool sx, .slice Ax xsx.length cx, .int .i64 ex] 26)) (.cells #[.bool sy, .slice Ay xsy.length cy, .int .i64 ey] 26); rw [heap_alloc_old _ _ (by simp <;> omega)]; simpa using this)
  have Gy : w.heap.size ≤ w.heap.size + 1 := by have := L0.out.1.size; omega
  have Nxy : w.heap.size < w.heap.size + 1 := by omega
  have Rz_1 := Lib.hid (show v1.heap[w.heap.size + 1 + 1]? = some (.cells #[.bool sz, .slice Az xsz.length cz, .int .i64 ez] 26 (0, 0)) by rw [hW]; have := heap_alloc_new ((w.alloc (.cells #[.bool sx, .slice Ax xsx.length cx, .int .i64 ex] 26)).alloc (.cells #[.bool sy, .slice Ay xsy.length cy, .int .i64 ey] 26)) (.cells #[.bool sz, .slice Az xsz.length cz, .int .i64 ez] 26); simpa using this)
  have Gz : w.heap.size ≤ w.heap.size + 1 + 1 := by have := L0.out.1.size; omega
  have Nxz : w.heap.size < w.heap.size + 1 + 1 := by omega
  have Nyz : w.heap.size + 1 < w.heap.size + 1 + 1 := by omega
  clear hW hb
  refine (dexamples_any _ (t32_live HT.out L1.out)).mono ?_
  rintro e w2 ⟨rfl, hb⟩
  have L2 := Lib.hid (L1.out.step hb)
  have Rx_2 := Lib.hid (cells_of Rx_1.out hb)
  have Ry_2 := Lib.hid (cells_of Ry_1.out hb)
  have Rz_2 := Lib.hid (cells_of Rz_1.out hb)
  clear hb 
  have fx0 := row_c (i := 0) Rx_2.out rfl
  have zx0 := frozen_of_row _ _ 0 _ _ Rx_2.out
  have fx1 := row_c (i := 1) Rx_2.out rfl
  have zx1 := frozen_of_row _ _ 1 _ _ Rx_2.out
  have fx2 := row_c (i := 2) Rx_2.out rfl
  have zx2 := frozen_of_row _ _ 2 _ _ Rx_2.out
  have xx := heap_lt Rx_2.out
  go_wp2_with fail
  refine (tame_any (M := mx) (E := yx) (L2.out.get (A := Ax) (c := cx) (xs := xsx) (by simp)) (t32_live HT.out L2.out) LXx.out E0x.out E1x.out HMx.out HYx.out).mono ?_
  rintro e w3 ⟨A3, c3, rfl, hd, hb⟩
  have L3 := Lib.hid ((L2.out.step hb).add hd)
  clear fx0 zx0 fx1 zx1 fx2 zx2 xx
  have Rx_3 := Lib.hid (cells_of Rx_2.out hb)
  have Ry_3 := Lib.hid (cells_of Ry_2.out hb)
  have Rz_3 := Lib.hid (cells_of Rz_2.out hb)
  clear hb hd
  have fy0 := row_c (i := 0) Ry_3.out rfl
  have zy0 := frozen_of_row _ _ 0 _ _ Ry_3.out
  have fy1 := row_c (i := 1) Ry_3.out rfl
  have zy1 := frozen_of_row _ _ 1 _ _ Ry_3.out
  have fy2 := row_c (i := 2) Ry_3.out rfl
  have zy2 := frozen_of_row _ _ 2 _ _ Ry_3.out
  have xy := heap_lt Ry_3.out
  go_wp2_with fail
  obtain ⟨w4, hW⟩ : ∃ W : World, W = (w3.alloc (.cells #[.bool (decide (mx < 0)), .slice A3 (digs mx.natAbs).length c3, .int .i64 yx] 26)) := ⟨_, rfl⟩
  rw [← hW]
  have hb : Below w3.heap.size w3 w4 := by rw [hW]; exact ((Below.refl _ _).alloc (by simp <;> omega) _)
  have L4 := Lib.hid (L3.out.step hb)
  have Rx_4 := Lib.hid (cells_of Rx_3.out hb)
  have Ry_4 := Lib.hid (cells_of Ry_3.out hb)
  have Rz_4 := Lib.hid (cells_of Rz_3.out hb)
  have Rtx_4 := Lib.hid (show w4.heap[w3.heap.size]? = some (.cells #[.bool (decide (mx < 0)), .slice A3 (digs mx.natAbs).length c3, .int .i64 yx] 26 (0, 0)) by rw [hW]; have := heap_alloc_new w3 (.cells #[.bool (decide (mx < 0)), .slice A3 (digs mx.natAbs).length c3, .int .i64 yx] 26); simpa using this)
  have Gtx : w.heap.size ≤ w3.heap.size := by have := L3.out.1.size; omega
  have Nxtx : w.heap.size < w3.heap.size := by have := heap_lt Rx_3.out; omega
  have Nytx : w.heap.size + 1 < w3.heap.size := by have := heap_lt Ry_3.out; omega
  have Nztx : w.heap.size + 1 + 1 < w3.heap.size := by have := heap_lt Rz_3.out; omega
  clear hW hb
  clear fy0 zy0 fy1 zy1 fy2 zy2 xy
  refine (tame_any (M := my) (E := yy) (L4.out.get (A := Ay) (c := cy) (xs := xsy) (by simp)) (t32_live HT.out L4.out) LXy.out E0y.out E1y.out HMy.out HYy.out).mono ?_
  rintro e w5 ⟨A5, c5, rfl, hd, hb⟩
  have L5 := Lib.hid ((L4.out.step hb).add hd)
  have Rx_5 := Lib.hid (cells_of Rx_4.out hb)
  have Ry_5 := Lib.hid (cells_of Ry_4.out hb)
  have Rz_5 := Lib.hid (cells_of Rz_4.out hb)
  have Rtx_5 := Lib.hid (cells_of Rtx_4.out hb)
  clear hb hd
  have fz0 := row_c (i := 0) Rz_5.out rfl
  have zz0 := frozen_of_row _ _ 0 _ _ Rz_5.out
  have fz1 := row_c (i := 1) Rz_5.out rfl
  have zz1 := frozen_of_row _ _ 1 _ _ Rz_5.out
  have fz2 := row_c (i := 2) Rz_5.out rfl
  have zz2 := frozen_of_row _ _ 2 _ _ Rz_5.out
  have xz := heap_lt Rz_5.out
  go_wp2_with fail
  obtain ⟨w6, hW⟩ : ∃ W : World, W = (w5.alloc (.cells #[.bool (decide (my < 0)), .slice A5 (digs my.natAbs).length c5, .int .i64 yy] 26)) := ⟨_, rfl⟩
  rw [← hW]
  have hb : Below w5.heap.size w5 w6 := by rw [hW]; exact ((Below.refl _ _).alloc (by simp <;> omega) _)
  have L6 := Lib.hid (L5.out.step hb)
  have Rx_6 := Lib.hid (cells_of Rx_5.out hb)
  have Ry_6 := Lib.hid (cells_of Ry_5.out hb)
  have Rz_6 := Lib.hid (cells_of Rz_5.out hb)
  have Rtx_6 := Lib.hid (cells_of Rtx_5.out hb)
  have Rty_6 := Lib.hid (show w6.heap[w5.heap.size]? = some (.cells #[.bool (decide (my < 0)), .slice A5 (digs my.natAbs).length c5, .int .i64 yy] 26 (0, 0)) by rw [hW]; have := heap_alloc_new w5 (.cells #[.bool (decide (my < 0)), .slice A5 (digs my.natAbs).length c5, .int .i64 yy] 26); simpa using this)
  have Gty : w.heap.size ≤ w5.heap.size := by have := L5.out.1.size; omega
  have Nxty : w.heap.size < w5.heap.size := by have := heap_lt Rx_5.out; omega
  have Nyty : w.heap.size + 1 < w5.heap.size := by have := heap_lt Ry_5.out; omega
  have Nzty : w.heap.size + 1 + 1 < w5.heap.size := by have := heap_lt Rz_5.out; omega
  have Ntxty : w3.heap.size < w5.heap.size := by have := heap_lt Rtx_5.out; omega
  clear hW hb
  clear fz0 zz0 fz1 zz1 fz2 zz2 xz
  refine (tame_any (M := mz) (E := yz) (L6.out.get (A := Az) (c := cz) (xs := xsz) (by simp)) (t32_live HT.out L6.out) LXz.out E0z.out E1z.out HMz.out HYz.out).mono ?_
  rintro e w7 ⟨A7, c7, rfl, hd, hb⟩
  have L7 := Lib.hid ((L6.out.step hb).add hd)
  have Rx_7 := Lib.hid (cells_of Rx_6.out hb)
  have Ry_7 := Lib.hid (cells_of Ry_6.out hb)
  have Rz_7 := Lib.hid (cells_of Rz_6.out hb)
  have Rtx_7 := Lib.hid (cells_of Rtx_6.out hb)
  have Rty_7 := Lib.hid (cells_of Rty_6.out hb)
  clear hb hd
  have ftx0 := row_c (i := 0) Rtx_7.out rfl
  have ztx0 := frozen_of_row _ _ 0 _ _ Rtx_7.out
  have ftx1 := row_c (i := 1) Rtx_7.out rfl
  have ztx1 := frozen_of_row _ _ 1 _ _ Rtx_7.out
  have ftx2 := row_c (i := 2) Rtx_7.out rfl
  have ztx2 := frozen_of_row _ _ 2 _ _ Rtx_7.out
  have xtx := heap_lt Rtx_7.out
  have fty0 := row_c (i := 0) Rty_7.out rfl
  have zty0 := frozen_of_row _ _ 0 _ _ Rty_7.out
  have fty1 := row_c (i := 1) Rty_7.out rfl
  have zty1 := frozen_of_row _ _ 1 _ _ Rty_7.out
  have fty2 := row_c (i := 2) Rty_7.out rfl
  have zty2 := frozen_of_row _ _ 2 _ _ Rty_7.out
  have xty := heap_lt Rty_7.out
  go_wp2_with fail
  obtain ⟨w8, hW⟩ : ∃ W : World, W = (w7.alloc (.cells #[.bool (decide (mz < 0)), .slice A7 (digs mz.natAbs).length c7, .int .i64 yz] 26)) := ⟨_, rfl⟩
  rw [← hW]
  have hb : Below w7.heap.size w7 w8 := by rw [hW]; exact ((Below.refl _ _).alloc (by simp <;> omega) _)
  have L8 := Lib.hid (L7.out.step hb)
  have Rx_8 := Lib.hid (cells_of Rx_7.out hb)
  have Ry_8 := Lib.hid (cells_of Ry_7.out hb)
  have Rz_8 := Lib.hid (cells_of Rz_7.out hb)
  have Rtx_8 := Lib.hid (cells_of Rtx_7.out hb)
  have Rty_8 := Lib.hid (cells_of Rty_7.out hb)
  have Rtz_8 := Lib.hid (show w8.heap[w7.heap.size]? = some (.cells #[.bool (decide (mz < 0)), .slice A7 (digs mz.natAbs).length c7, .int .i64 yz] 26 (0, 0)) by rw [hW]; have := heap_alloc_new w7 (.cells #[.bool (decide (mz < 0)), .slice A7 (digs mz.natAbs).length c7, .int .i64 yz] 26); simpa using this)
  have Gtz : w.heap.size ≤ w7.heap.size := by have := L7.out.1.size; omega
  have Nxtz : w.heap.size < w7.heap.size := by have := heap_lt Rx_7.out; omega
  have Nytz : w.heap.size + 1 < w7.heap.size := by have := heap_lt Ry_7.out; omega
  have Nztz : w.heap.size + 1 + 1 < w7.heap.size := by have := heap_lt Rz_7.out; omega
  have Ntxtz : w3.heap.size < w7.heap.size := by have := heap_lt Rtx_7.out; omega
  have Ntytz : w5.heap.size < w7.heap.size := by have := heap_lt Rty_7.out; omega
  clear hW hb
  clear ftx0 ztx0 ftx1 ztx1 ftx2 ztx2 xtx fty0 zty0 fty1 zty1 fty2 zty2 xty
  refine (dcmp_any (m := mx) (n := my) (x := yx) (y := yy) (q := j) (L8.out.get (A := A3) (c := c3) (xs := digs mx.natAbs) (by simp)) (L8.out.get (A := A5) (c := c5) (xs := digs my.natAbs) (by simp)) (Nat.le_trans Dx.out (by omega)) (Nat.le_trans Dy.out (by omega)) Rx.out Ry.out HJ.out).mono ?_
  rintro e w9 ⟨rfl, hb⟩
  have L9 := Lib.hid (L8.out.step hb)
  have Rx_9 := Lib.hid (cells_of Rx_8.out hb)
  have Ry_9 := Lib.hid (cells_of Ry_8.out hb)
  have Rz_9 := Lib.hid (cells_of Rz_8.out hb)
  have Rtx_9 := Lib.hid (cells_of Rtx_8.out hb)
  have Rty_9 := Lib.hid (cells_of Rty_8.out hb)
  have Rtz_9 := Lib.hid (cells_of Rtz_8.out hb)
  clear hb 
  have ftx0 := row_c (i := 0) Rtx_9.out rfl
  have ztx0 := frozen_of_row _ _ 0 _ _ Rtx_9.out
  have ftx1 := row_c (i := 1) Rtx_9.out rfl
  have ztx1 := frozen_of_row _ _ 1 _ _ Rtx_9.out
  have ftx2 := row_c (i := 2) Rtx_9.out rfl
  have ztx2 := frozen_of_row _ _ 2 _ _ Rtx_9.out
  have xtx := heap_lt Rtx_9.out
  have fty0 := row_c (i := 0) Rty_9.out rfl
  have zty0 := frozen_of_row _ _ 0 _ _ Rty_9.out
  have fty1 := row_c (i := 1) Rty_9.out rfl
  have zty1 := frozen_of_row _ _ 1 _ _ Rty_9.out
  have fty2 := row_c (i := 2) Rty_9.out rfl
  have zty2 := frozen_of_row _ _ 2 _ _ Rty_9.out
  have xty := heap_lt Rty_9.out
  go_wp2_with fail
  refine (dsub_yes (m := mx) (x := yx) (n := my) (y := yy) (M := Md) (E := Ed) (L9.out.get (A := A3) (c := c3) (xs := digs mx.natAbs) (by simp)) (L9.out.get (A := A5) (c := c5) (xs := digs my.natAbs) (by simp)) Dx.out Dy.out Rx.out Ry.out (t32_live HT.out L9.out) HI.out Id.out).mono ?_
  rintro e w10 ⟨A10, c10, rfl, hd, hb⟩
  have L10 := Lib.hid ((L9.out.step hb).add hd)
  clear ftx0 ztx0 ftx1 ztx1 ftx2 ztx2 xtx fty0 zty0 fty1 zty1 fty2 zty2 xty
  have Rx_10 := Lib.hid (cells_of Rx_9.out hb)
  have Ry_10 := Lib.hid (cells_of Ry_9.out hb)
  have Rz_10 := Lib.hid (cells_of Rz_9.out hb)
  have Rtx_10 := Lib.hid (cells_of Rtx_9.out hb)
  have Rty_10 := Lib.hid (cells_of Rty_9.out hb)
  have Rtz_10 := Lib.hid (cells_of Rtz_9.out hb)
  clear hb hd
  go_wp2_with fail
  obtain ⟨w11, hW⟩ : ∃ W : World, W = (w10.alloc (.cells #[.bool (decide (Md < 0)), .slice A10 (digs Md.natAbs).length c10, .int .i64 Ed] 26)) := ⟨_, rfl⟩
  rw [← hW]
  have hb : Below w10.heap.size w10 w11 := by rw [hW]; exact ((Below.refl _ _).alloc (by simp <;> omega) _)
  have L11 := Lib.hid (L10.out.step hb)
  have Rx_11 := Lib.hid (cells_of Rx_10.out hb)
  have Ry_11 := Lib.hid (cells_of Ry_10.out hb)
  have Rz_11 := Lib.hid (cells_of Rz_10.out hb)
  have Rtx_11 := Lib.hid (cells_of Rtx_10.out hb)
  have Rty_11 := Lib.hid (cells_of Rty_10.out hb)
  have Rtz_11 := Lib.hid (cells_of Rtz_10.out hb)
  have Rbd_11 := Lib.hid (show w11.heap[w10.heap.size]? = some (.cells #[.bool (decide (Md < 0)), .slice A10 (digs Md.natAbs).length c10, .int .i64 Ed] 26 (0, 0)) by rw [hW]; have := heap_alloc_new w10 (.cells #[.bool (decide (Md < 0)), .slice A10 (digs Md.natAbs).length c10, .int .i64 Ed] 26); simpa using this)
  have Gbd : w.heap.size ≤ w10.heap.size := by have := L10.out.1.size; omega
  have Nxbd : w.heap.size < w10.heap.size := by have := heap_lt Rx_10.out; omega
  have Nybd : w.heap.size + 1 < w10.heap.size := by have := heap_lt Ry_10.out; omega
  have Nzbd : w.heap.size + 1 + 1 < w10.heap.size := by have := heap_lt Rz_10.out; omega
  have Ntxbd : w3.heap.size < w10.heap.size := by have := heap_lt Rtx_10.out; omega
  have Ntybd : w5.heap.size < w10.heap.size := by have := heap_lt Rty_10.out; omega
  have Ntzbd : w7.heap.size < w10.heap.size := by have := heap_lt Rtz_10.out; omega
  clear hW hb
  clear HMx HYx LXx E0x E1x Ix HMy HYy LXy E0y E1y Iy HMz HYz LXz E0z E1z Iz HJ HI Id Gx Gy Nxy Gz Nxz Nyz Gtx Nxtx Nytx Nztx Gty Nxty Nyty Nzty Ntxty Gtz Nxtz Nytz Nztz Ntxtz Ntytz Gbd Nxbd Nybd Nzbd Ntxbd Ntybd Ntzbd Rx_11 Ry_11 Rz_11 L0 L1 L2 L3 L4 L5 L6 L7 L8 L9 L10 Rx_1 Ry_1 Rz_1 Rx_2 Ry_2 Rz_2 Rx_3 Ry_3 Rz_3 Rx_4 Ry_4 Rz_4 Rtx_4 Rx_5 Ry_5 Rz_5 Rtx_5 Rx_6 Ry_6 Rz_6 Rtx_6 Rty_6 Rx_7 Ry_7 Rz_7 Rtx_7 Rty_7 Rx_8 Ry_8 Rz_8 Rtx_8 Rty_8 Rtz_8 Rx_9 Ry_9 Rz_9 Rtx_9 Rty_9 Rtz_9 Rx_10 Ry_10 Rz_10 Rtx_10 Rty_10 Rtz_10
  refine wp_operands (W := w11) rfl 54 [32, 33, 34, 35, 36, 37, 38, 39, 40, 41, 42, 43, 44, 45, 46, 47, 48, 49, 50, 51, 52, 53, 54, 55, 56, 57, 58, 59, 60, 61, 62, 63, 64, 65, 66, 67, 68, 69, 70, 71, 72, 73, 74, 75, 76, 77, 78, 79, 80, 81, 82, 83, 84, 85] (fun i u ww => match i with | 0 => u = .bool true | 1 => u = .bool true | 2 => u = .int .i64 0 | 3 => u = .bool true | 4 => u = .bool true | 5 => u = .bool true | 6 => u = .agg #[.bool (decide (Md < 0)), .slice A10 (digs Md.natAbs).length c10, .int .i64 Ed] | 7 => u = .agg #[.bool false, .slice none 0 0, .int .i64 0] | 8 => u = .int .i64 j | 9 => u = .int .i64 j | 10 => u = .bool true | 11 => u = .bool true | 12 => u = .bool true | 13 => u = .agg #[.bool (decide (my < 0)), .slice A5 (digs my.natAbs).length c5, .int .i64 yy] | 14 => u = .agg #[.bool (decide (mx < 0)), .slice A3 (digs mx.natAbs).length c3, .int .i64 yx] | 15 => u = .int .i64 (-j) | 16 => u = .int .i64 j | 17 => u = .int .i64 (-j) | 18 => u = .bool true | 19 => u = .bool true | 20 => u = .bool true | 21 => u = .agg #[.bool (decide (mx < 0)), .slice A3 (digs mx.natAbs).length c3, .int .i64 yx] | 22 => ∃ A c, u = .agg #[.bool (decide (nx_ < 0)), .slice A (digs nx_.natAbs).length c, .int .i64 yx] ∧ Dg ww A c (digs nx_.natAbs) | 23 => u = .agg #[.bool (decide (my < 0)), .slice A5 (digs my.natAbs).length c5, .int .i64 yy] | 24 => ∃ A c, u = .agg #[.bool (decide (ny_ < 0)), .slice A (digs ny_.natAbs).length c, .int .i64 yy] ∧ Dg ww A c (digs ny_.natAbs) | 25 => u = .int .i64 (-j) | 26 => u = .int .i64 j | 27 => u = .int .i64 (-j) | 28 => u = .bool true | 29 => u = .bool true | 30 => u = .bool true | 31 => u = .int .i64 j | 32 => u = .bool false | 33 => u = .bool false | 34 => u = .agg #[.bool (decide (my < 0)), .slice A5 (digs my.natAbs).length c5, .int .i64 yy] | 35 => u = .agg #[.bool (decide (mz < 0)), .slice A7 (digs mz.natAbs).length c7, .int .i64 yz] | 36 => u = .int .i64 j2 | 37 => u = .bool true | 38 => u = .bool true | 39 => u = .bool true | 40 => u = undef | 41 => u = undef | 42 => u = undef | 43 => u = undef | 44 => u = .bool true | 45 => u = .bool true | 46 => u = .bool true | 47 => u = .int .i64 j | 48 => u = .bool q | 49 => u = .agg #[.bool (decide (mx < 0)), .slice A3 (digs mx.natAbs).length c3, .int .i64 yx] | 50 => u = .agg #[.bool (decide (my < 0)), .slice A5 (digs my.natAbs).length c5, .int .i64 yy] | 51 => u = .bool q | 52 => u = .bool true | 53 => u = .bool true | _ => True) (fun _ => false)
    (by decide) (by kernel_rfl) (by kernel_rfl) (by kernel_rfl) (by decide) (by kernel_rfl) ?_ (fun _ _ _ h => by cases h) ?_ ?_
  · intro i u y y2 hi h hb
    have hi' : i = 0 ∨ i = 1 ∨ i = 2 ∨ i = 3 ∨ i = 4 ∨ i = 5 ∨ i = 6 ∨ i = 7 ∨ i = 8 ∨ i = 9 ∨ i = 10 ∨ i = 11 ∨ i = 12 ∨ i = 13 ∨ i = 14 ∨ i = 15 ∨ i = 16 ∨ i = 17 ∨ i = 18 ∨ i = 19 ∨ i = 20 ∨ i = 21 ∨ i = 22 ∨ i = 23 ∨ i = 24 ∨ i = 25 ∨ i = 26 ∨ i = 27 ∨ i = 28 ∨ i = 29 ∨ i = 30 ∨ i = 31 ∨ i = 32 ∨ i = 33 ∨ i = 34 ∨ i = 35 ∨ i = 36 ∨ i = 37 ∨ i = 38 ∨ i = 39 ∨ i = 40 ∨ i = 41 ∨ i = 42 ∨ i = 43 ∨ i = 44 ∨ i = 45 ∨ i = 46 ∨ i = 47 ∨ i = 48 ∨ i = 49 ∨ i = 50 ∨ i = 51 ∨ i = 52 ∨ i = 53 := by omega
    rcases hi' with rfl | rfl | rfl | rfl | rfl | rfl | rfl | rfl | rfl | rfl | rfl | rfl | rfl | rfl | rfl | rfl | rfl | rfl | rfl | rfl | rfl | rfl | rfl | rfl | rfl | rfl | rfl | rfl | rfl | rfl | rfl | rfl | rfl | rfl | rfl | rfl | rfl | rfl | rfl | rfl | rfl | rfl | rfl | rfl | rfl | rfl | rfl | rfl | rfl | rfl | rfl | rfl | rfl | rfl
    · exact h
    · exact h
    · exact h
    · exact h
    · exact h
    · exact h
    · exact h
    · exact h
    · exact h
    · exact h
    · exact h
    · exact h
    · exact h
    · exact h
    · exact h
    · exact h
    · exact h
    · exact h
    · exact h
    · exact h
    · exact h
    · exact h
    · obtain ⟨A, c, e, hd⟩ := h
      exact ⟨A, c, e, hd.below hb⟩
    · exact h
    · obtain ⟨A, c, e, hd⟩ := h
      exact ⟨A, c, e, hd.below hb⟩
    · exact h
    · exact h
    · exact h
    · exact h
    · exact h
    · exact h
    · exact h
    · exact h
    · exact h
    · exact h
    · exact h
    · exact h
    · exact h
    · exact h
    · exact h
    · exact h
    · exact h
    · exact h
    · exact h
    · exact h
    · exact h
    · exact h
    · exact h
    · exact h
    · exact h
    · exact h
    · exact h
    · exact h
    · exact h
  · intro i a x K hi hF hb hw hK
    have hi' : i = 0 ∨ i = 1 ∨ i = 2 ∨ i = 3 ∨ i = 4 ∨ i = 5 ∨ i = 6 ∨ i = 7 ∨ i = 8 ∨ i = 9 ∨ i = 10 ∨ i = 11 ∨ i = 12 ∨ i = 13 ∨ i = 14 ∨ i = 15 ∨ i = 16 ∨ i = 17 ∨ i = 18 ∨ i = 19 ∨ i = 20 ∨ i = 21 ∨ i = 22 ∨ i = 23 ∨ i = 24 ∨ i = 25 ∨ i = 26 ∨ i = 27 ∨ i = 28 ∨ i = 29 ∨ i = 30 ∨ i = 31 ∨ i = 32 ∨ i = 33 ∨ i = 34 ∨ i = 35 ∨ i = 36 ∨ i = 37 ∨ i = 38 ∨ i = 39 ∨ i = 40 ∨ i = 41 ∨ i = 42 ∨ i = 43 ∨ i = 44 ∨ i = 45 ∨ i = 46 ∨ i = 47 ∨ i = 48 ∨ i = 49 ∨ i = 50 ∨ i = 51 ∨ i = 52 ∨ i = 53 := by omega
    rcases hi' with rfl | rfl | rfl | rfl | rfl | rfl | rfl | rfl | rfl | rfl | rfl | rfl | rfl | rfl | rfl | rfl | rfl | rfl | rfl | rfl | rfl | rfl | rfl | rfl | rfl | rfl | rfl | rfl | rfl | rfl | rfl | rfl | rfl | rfl | rfl | rfl | rfl | rfl | rfl | rfl | rfl | rfl | rfl | rfl | rfl | rfl | rfl | rfl | rfl | rfl | rfl | rfl | rfl | rfl
    · simp only [wpOp, List.getElem?_toArray, List.getElem?_cons_zero, Region.wanted, if_true]
      refine Or.inl ?_
      have e0 : a.eval (.tmp 7) = .bool true := hF.2.2 7 (by decide)
      clear hw hF
      simp only [Oper.wp, execOp]
      rw [e0]
      go_simp
      exact hK _ x (by first | rfl | simp) (Below.refl _ _) (fun h => by cases h)
    · simp only [wpOp, List.getElem?_toArray, List.getElem?_cons_succ, List.getElem?_cons_zero, Region.wanted, if_true]
      refine Or.inl ?_
      have e0 : a.tmps.getD 32 undef = .bool true := hw 0 (by kernel_rfl)
      clear hw hF
      simp only [Oper.wp, execOp]
      go_simp
      exact hK _ x (by first | rfl | simp) (Below.refl _ _) (fun h => by cases h)
    · simp only [wpOp, List.getElem?_toArray, List.getElem?_cons_succ, List.getElem?_cons_zero]
      have eg : a.tmps.getD 33 undef = .bool true := hw 1 (by kernel_rfl)
      refine ite_yes (wanted_yes rfl (yielded_of (t := 33) (by kernel_rfl) eg)) ?_
      clear eg
      refine Or.inl ?_
      have e0 : a.eval (.tmp 13) = .int .i64 0 := hF.2.2 13 (by decide)
      clear hw hF
      simp only [Oper.wp, execOp]
      rw [e0]
      go_simp
      exact hK _ x (by first | rfl | simp) (Below.refl _ _) (fun h => by cases h)
    · simp only [wpOp, List.getElem?_toArray, List.getElem?_cons_succ, List.getElem?_cons_zero]
      have eg : a.tmps.getD 33 undef = .bool true := hw 1 (by kernel_rfl)
      refine ite_yes (wanted_yes rfl (yielded_of (t := 33) (by kernel_rfl) eg)) ?_
      clear eg
      refine Or.inl ?_
      have e0 : a.tmps.getD 34 undef = .int .i64 0 := hw 2 (by kernel_rfl)
      clear hw hF
      have g1 := G1.out
      have hq := HQ.out
      have j0 := J0.out
      have j1 := J1.out
      have qq : (q == q) = true := by simp
      have jj : (j == j) = true := by simp
      have nn : (-j == -j) = true := by simp
      have hwr : IntKind.i64.wrap (-j) = -j := by rw [IntWalk.i64_in _ (by omega)]
      have g2 := G2.out
      simp only [Oper.wp, execOp]
      go_simp
      exact hK _ x (by first | rfl | simp) (Below.refl _ _) (fun h => by cases h)
    · simp only [wpOp, List.getElem?_toArray, List.getElem?_cons_succ, List.getElem?_cons_zero, Region.wanted, if_true]
      refine Or.inl ?_
      have e0 : a.tmps.getD 33 undef = .bool true := hw 1 (by kernel_rfl)
      have e1 : a.tmps.getD 35 undef = .bool true := hw 3 (by kernel_rfl)
      clear hw hF
      have g1 := G1.out
      have hq := HQ.out
      have j0 := J0.out
      have j1 := J1.out
      have qq : (q == q) = true := by simp
      have jj : (j == j) = true := by simp
      have nn : (-j == -j) = true := by simp
      have hwr : IntKind.i64.wrap (-j) = -j := by rw [IntWalk.i64_in _ (by omega)]
      have g2 := G2.out
      simp only [Oper.wp, execOp]
      go_simp
      exact hK _ x (by first | rfl | simp) (Below.refl _ _) (fun h => by cases h)
    · simp only [wpOp, List.getElem?_toArray, List.getElem?_cons_succ, List.getElem?_cons_zero, Region.wanted, if_true]
      refine Or.inl ?_
      have e0 : a.tmps.getD 36 undef = .bool true := hw 4 (by kernel_rfl)
      clear hw hF
      simp only [Oper.wp, execOp]
      go_simp
      exact hK _ x (by first | rfl | simp) (Below.refl _ _) (fun h => by cases h)
    · simp only [wpOp, List.getElem?_toArray, List.getElem?_cons_succ, List.getElem?_cons_zero]
      have eg : a.tmps.getD 37 undef = .bool true := hw 5 (by kernel_rfl)
      refine ite_yes (wanted_yes rfl (yielded_of (t := 37) (by kernel_rfl) eg)) ?_
      clear eg
      refine Or.inl ?_
      have e0 : a.eval (.tmp 12) = .pointer (some ⟨w10.heap.size, 0, none⟩) := hF.2.2 12 (by decide)
      have f0 := row_cell Rbd_11.out hb 0
      have f1 := row_cell Rbd_11.out hb 1
      have f2 := row_cell Rbd_11.out hb 2
      simp only [List.getElem?_toArray, List.getElem?_cons_succ, List.getElem?_cons_zero] at f0 f1 f2
      clear hw hF
      simp only [Oper.wp, execOp]
      rw [e0]
      go_simp
      exact hK _ x (by first | rfl | simp) (Below.refl _ _) (fun h => by cases h)
    · simp only [wpOp, List.getElem?_toArray, List.getElem?_cons_succ, List.getElem?_cons_zero]
      have eg : a.tmps.getD 37 undef = .bool true := hw 5 (by kernel_rfl)
      refine ite_yes (wanted_yes rfl (yielded_of (t := 37) (by kernel_rfl) eg)) ?_
      clear eg
      refine Or.inl ?_
      clear hw hF
      simp only [Oper.wp, execOp]
      go_simp
      exact hK _ x (by first | rfl | simp) (Below.refl _ _) (fun h => by cases h)
    · simp only [wpOp, List.getElem?_toArray, List.getElem?_cons_succ, List.getElem?_cons_zero]
      have eg : a.tmps.getD 37 undef = .bool true := hw 5 (by kernel_rfl)
      refine ite_yes (wanted_yes rfl (yielded_of (t := 37) (by kernel_rfl) eg)) ?_
      clear eg
      refine Or.inl ?_
      have e0 : a.tmps.getD 38 undef = .agg #[.bool (decide (Md < 0)), .slice A10 (digs Md.natAbs).length c10, .int .i64 Ed] := hw 6 (by kernel_rfl)
      have e1 : a.tmps.getD 39 undef = .agg #[.bool false, .slice none 0 0, .int .i64 0] := hw 7 (by kernel_rfl)
      clear hw hF
      simp only [Oper.wp, execOp]
      go_simp
      refine (dcmp0 ((L11.out.step hb).get (A := A10) (c := c10) (xs := digs Md.natAbs) (by simp)) (Nat.le_trans Dd.out (by omega)) Rd.out C0.out).mono ?_
      rintro e y ⟨rfl, hbb⟩
      exact hK _ y rfl hbb (fun h => by cases h)
    · simp only [wpOp, List.getElem?_toArray, List.getElem?_cons_succ, List.getElem?_cons_zero]
      have eg : a.tmps.getD 37 undef = .bool true := hw 5 (by kernel_rfl)
      refine ite_yes (wanted_yes rfl (yielded_of (t := 37) (by kernel_rfl) eg)) ?_
      clear eg
      refine Or.inl ?_
      have e0 : a.eval (.tmp 11) = .int .i64 j := hF.2.2 11 (by decide)
      clear hw hF
      simp only [Oper.wp, execOp]
      rw [e0]
      go_simp
      exact hK _ x (by first | rfl | simp) (Below.refl _ _) (fun h => by cases h)
    · simp only [wpOp, List.getElem?_toArray, List.getElem?_cons_succ, List.getElem?_cons_zero]
      have eg : a.tmps.getD 37 undef = .bool true := hw 5 (by kernel_rfl)
      refine ite_yes (wanted_yes rfl (yielded_of (t := 37) (by kernel_rfl) eg)) ?_
      clear eg
      refine Or.inl ?_
      have e0 : a.tmps.getD 40 undef = .int .i64 j := hw 8 (by kernel_rfl)
      have e1 : a.tmps.getD 41 undef = .int .i64 j := hw 9 (by kernel_rfl)
      clear hw hF
      have g1 := G1.out
      have hq := HQ.out
      have j0 := J0.out
      have j1 := J1.out
      have qq : (q == q) = true := by simp
      have jj : (j == j) = true := by simp
      have nn : (-j == -j) = true := by simp
      have hwr : IntKind.i64.wrap (-j) = -j := by rw [IntWalk.i64_in _ (by omega)]
      have g2 := G2.out
      simp only [Oper.wp, execOp]
      go_simp
      exact hK _ x (by first | rfl | simp) (Below.refl _ _) (fun h => by cases h)
    · simp only [wpOp, List.getElem?_toArray, List.getElem?_cons_succ, List.getElem?_cons_zero, Region.wanted, if_true]
      refine Or.inl ?_
      have e0 : a.tmps.getD 37 undef = .bool true := hw 5 (by kernel_rfl)
      have e1 : a.tmps.getD 42 undef = .bool true := hw 10 (by kernel_rfl)
      clear hw hF
      have g1 := G1.out
      have hq := HQ.out
      have j0 := J0.out
      have j1 := J1.out
      have qq : (q == q) = true := by simp
      have jj : (j == j) = true := by simp
      have nn : (-j == -j) = true := by simp
      have hwr : IntKind.i64.wrap (-j) = -j := by rw [IntWalk.i64_in _ (by omega)]
      have g2 := G2.out
      simp only [Oper.wp, execOp]
      go_simp
      exact hK _ x (by first | rfl | simp) (Below.refl _ _) (fun h => by cases h)
    · simp only [wpOp, List.getElem?_toArray, List.getElem?_cons_succ, List.getElem?_cons_zero, Region.wanted, if_true]
      refine Or.inl ?_
      have e0 : a.tmps.getD 43 undef = .bool true := hw 11 (by kernel_rfl)
      clear hw hF
      simp only [Oper.wp, execOp]
      go_simp
      exact hK _ x (by first | rfl | simp) (Below.refl _ _) (fun h => by cases h)
    · simp only [wpOp, List.getElem?_toArray, List.getElem?_cons_succ, List.getElem?_cons_zero]
      have eg : a.tmps.getD 44 undef = .bool true := hw 12 (by kernel_rfl)
      refine ite_yes (wanted_yes rfl (yielded_of (t := 44) (by kernel_rfl) eg)) ?_
      clear eg
      refine Or.inl ?_
      have e0 : a.eval (.tmp 9) = .pointer (some ⟨w5.heap.size, 0, none⟩) := hF.2.2 9 (by decide)
      have f0 := row_cell Rty_11.out hb 0
      have f1 := row_cell Rty_11.out hb 1
      have f2 := row_cell Rty_11.out hb 2
      simp only [List.getElem?_toArray, List.getElem?_cons_succ, List.getElem?_cons_zero] at f0 f1 f2
      clear hw hF
      simp only [Oper.wp, execOp]
      rw [e0]
      go_simp
      exact hK _ x (by first | rfl | simp) (Below.refl _ _) (fun h => by cases h)
    · simp only [wpOp, List.getElem?_toArray, List.getElem?_cons_succ, List.getElem?_cons_zero]
      have eg : a.tmps.getD 44 undef = .bool true := hw 12 (by kernel_rfl)
      refine ite_yes (wanted_yes rfl (yielded_of (t := 44) (by kernel_rfl) eg)) ?_
      clear eg
      refine Or.inl ?_
      have e0 : a.eval (.tmp 8) = .pointer (some ⟨w3.heap.size, 0, none⟩) := hF.2.2 8 (by decide)
      have f0 := row_cell Rtx_11.out hb 0
      have f1 := row_cell Rtx_11.out hb 1
      have f2 := row_cell Rtx_11.out hb 2
      simp only [List.getElem?_toArray, List.getElem?_cons_succ, List.getElem?_cons_zero] at f0 f1 f2
      clear hw hF
      simp only [Oper.wp, execOp]
      rw [e0]
      go_simp
      exact hK _ x (by first | rfl | simp) (Below.refl _ _) (fun h => by cases h)
    · simp only [wpOp, List.getElem?_toArray, List.getElem?_cons_succ, List.getElem?_cons_zero]
      have eg : a.tmps.getD 44 undef = .bool true := hw 12 (by kernel_rfl)
      refine ite_yes (wanted_yes rfl (yielded_of (t := 44) (by kernel_rfl) eg)) ?_
      clear eg
      refine Or.inl ?_
      have e0 : a.tmps.getD 45 undef = .agg #[.bool (decide (my < 0)), .slice A5 (digs my.natAbs).length c5, .int .i64 yy] := hw 13 (by kernel_rfl)
      have e1 : a.tmps.getD 46 undef = .agg #[.bool (decide (mx < 0)), .slice A3 (digs mx.natAbs).length c3, .int .i64 yx] := hw 14 (by kernel_rfl)
      clear hw hF
      simp only [Oper.wp, execOp]
      go_simp
      refine (dcmp_any (m := my) (n := mx) (x := yy) (y := yx) (q := -j) ((L11.out.step hb).get (A := A5) (c := c5) (xs := digs my.natAbs) (by simp)) ((L11.out.step hb).get (A := A3) (c := c3) (xs := digs mx.natAbs) (by simp)) (Nat.le_trans Dy.out (by omega)) (Nat.le_trans Dx.out (by omega)) Ry.out Rx.out C1.out).mono ?_
      rintro e y ⟨rfl, hbb⟩
      exact hK _ y rfl hbb (fun h => by cases h)
    · simp only [wpOp, List.getElem?_toArray, List.getElem?_cons_succ, List.getElem?_cons_zero]
      have eg : a.tmps.getD 44 undef = .bool true := hw 12 (by kernel_rfl)
      refine ite_yes (wanted_yes rfl (yielded_of (t := 44) (by kernel_rfl) eg)) ?_
      clear eg
      refine Or.inl ?_
      have e0 : a.eval (.tmp 11) = .int .i64 j := hF.2.2 11 (by decide)
      clear hw hF
      simp only [Oper.wp, execOp]
      rw [e0]
      go_simp
      exact hK _ x (by first | rfl | simp) (Below.refl _ _) (fun h => by cases h)
    · simp only [wpOp, List.getElem?_toArray, List.getElem?_cons_succ, List.getElem?_cons_zero]
      have eg : a.tmps.getD 44 undef = .bool true := hw 12 (by kernel_rfl)
      refine ite_yes (wanted_yes rfl (yielded_of (t := 44) (by kernel_rfl) eg)) ?_
      clear eg
      refine Or.inl ?_
      have e0 : a.tmps.getD 48 undef = .int .i64 j := hw 16 (by kernel_rfl)
      clear hw hF
      have g1 := G1.out
      have hq := HQ.out
      have j0 := J0.out
      have j1 := J1.out
      have qq : (q == q) = true := by simp
      have jj : (j == j) = true := by simp
      have nn : (-j == -j) = true := by simp
      have hwr : IntKind.i64.wrap (-j) = -j := by rw [IntWalk.i64_in _ (by omega)]
      have g2 := G2.out
      simp only [Oper.wp, execOp]
      go_simp
      exact hK _ x (by first | rfl | simp) (Below.refl _ _) (fun h => by cases h)
    · simp only [wpOp, List.getElem?_toArray, List.getElem?_cons_succ, List.getElem?_cons_zero]
      have eg : a.tmps.getD 44 undef = .bool true := hw 12 (by kernel_rfl)
      refine ite_yes (wanted_yes rfl (yielded_of (t := 44) (by kernel_rfl) eg)) ?_
      clear eg
      refine Or.inl ?_
      have e0 : a.tmps.getD 47 undef = .int .i64 (-j) := hw 15 (by kernel_rfl)
      have e1 : a.tmps.getD 49 undef = .int .i64 (-j) := hw 17 (by kernel_rfl)
      clear hw hF
      have g1 := G1.out
      have hq := HQ.out
      have j0 := J0.out
      have j1 := J1.out
      have qq : (q == q) = true := by simp
      have jj : (j == j) = true := by simp
      have nn : (-j == -j) = true := by simp
      have hwr : IntKind.i64.wrap (-j) = -j := by rw [IntWalk.i64_in _ (by omega)]
      have g2 := G2.out
      simp only [Oper.wp, execOp]
      go_simp
      exact hK _ x (by first | rfl | simp) (Below.refl _ _) (fun h => by cases h)
    · simp only [wpOp, List.getElem?_toArray, List.getElem?_cons_succ, List.getElem?_cons_zero, Region.wanted, if_true]
      refine Or.inl ?_
      have e0 : a.tmps.getD 44 undef = .bool true := hw 12 (by kernel_rfl)
      have e1 : a.tmps.getD 50 undef = .bool true := hw 18 (by kernel_rfl)
      clear hw hF
      have g1 := G1.out
      have hq := HQ.out
      have j0 := J0.out
      have j1 := J1.out
      have qq : (q == q) = true := by simp
      have jj : (j == j) = true := by simp
      have nn : (-j == -j) = true := by simp
      have hwr : IntKind.i64.wrap (-j) = -j := by rw [IntWalk.i64_in _ (by omega)]
      have g2 := G2.out
      simp only [Oper.wp, execOp]
      go_simp
      exact hK _ x (by first | rfl | simp) (Below.refl _ _) (fun h => by cases h)
    · simp only [wpOp, List.getElem?_toArray, List.getElem?_cons_succ, List.getElem?_cons_zero, Region.wanted, if_true]
      refine Or.inl ?_
      have e0 : a.tmps.getD 51 undef = .bool true := hw 19 (by kernel_rfl)
      clear hw hF
      simp only [Oper.wp, execOp]
      go_simp
      exact hK _ x (by first | rfl | simp) (Below.refl _ _) (fun h => by cases h)
    · simp only [wpOp, List.getElem?_toArray, List.getElem?_cons_succ, List.getElem?_cons_zero]
      have eg : a.tmps.getD 52 undef = .bool true := hw 20 (by kernel_rfl)
      refine ite_yes (wanted_yes rfl (yielded_of (t := 52) (by kernel_rfl) eg)) ?_
      clear eg
      refine Or.inl ?_
      have e0 : a.eval (.tmp 8) = .pointer (some ⟨w3.heap.size, 0, none⟩) := hF.2.2 8 (by decide)
      have f0 := row_cell Rtx_11.out hb 0
      have f1 := row_cell Rtx_11.out hb 1
      have f2 := row_cell Rtx_11.out hb 2
      simp only [List.getElem?_toArray, List.getElem?_cons_succ, List.getElem?_cons_zero] at f0 f1 f2
      clear hw hF
      simp only [Oper.wp, execOp]
      rw [e0]
      go_simp
      exact hK _ x (by first | rfl | simp) (Below.refl _ _) (fun h => by cases h)
    · simp only [wpOp, List.getElem?_toArray, List.getElem?_cons_succ, List.getElem?_cons_zero]
      have eg : a.tmps.getD 52 undef = .bool true := hw 20 (by kernel_rfl)
      refine ite_yes (wanted_yes rfl (yielded_of (t := 52) (by kernel_rfl) eg)) ?_
      clear eg
      refine Or.inl ?_
      have e0 : a.tmps.getD 53 undef = .agg #[.bool (decide (mx < 0)), .slice A3 (digs mx.natAbs).length c3, .int .i64 yx] := hw 21 (by kernel_rfl)
      clear hw hF
      simp only [Oper.wp, execOp]
      go_simp
      refine (NX.out A3 c3 _ ((L11.out.step hb).get (A := A3) (c := c3) (xs := digs mx.natAbs) (by simp))).mono ?_
      rintro e y ⟨A', c', rfl, hd, hbb⟩
      exact hK _ y ⟨A', c', rfl, hd⟩ hbb (fun h => by cases h)
    · simp only [wpOp, List.getElem?_toArray, List.getElem?_cons_succ, List.getElem?_cons_zero]
      have eg : a.tmps.getD 52 undef = .bool true := hw 20 (by kernel_rfl)
      refine ite_yes (wanted_yes rfl (yielded_of (t := 52) (by kernel_rfl) eg)) ?_
      clear eg
      refine Or.inl ?_
      have e0 : a.eval (.tmp 9) = .pointer (some ⟨w5.heap.size, 0, none⟩) := hF.2.2 9 (by decide)
      have f0 := row_cell Rty_11.out hb 0
      have f1 := row_cell Rty_11.out hb 1
      have f2 := row_cell Rty_11.out hb 2
      simp only [List.getElem?_toArray, List.getElem?_cons_succ, List.getElem?_cons_zero] at f0 f1 f2
      clear hw hF
      simp only [Oper.wp, execOp]
      rw [e0]
      go_simp
      exact hK _ x (by first | rfl | simp) (Below.refl _ _) (fun h => by cases h)
    · simp only [wpOp, List.getElem?_toArray, List.getElem?_cons_succ, List.getElem?_cons_zero]
      have eg : a.tmps.getD 52 undef = .bool true := hw 20 (by kernel_rfl)
      refine ite_yes (wanted_yes rfl (yielded_of (t := 52) (by kernel_rfl) eg)) ?_
      clear eg
      refine Or.inl ?_
      have e0 : a.tmps.getD 55 undef = .agg #[.bool (decide (my < 0)), .slice A5 (digs my.natAbs).length c5, .int .i64 yy] := hw 23 (by kernel_rfl)
      clear hw hF
      simp only [Oper.wp, execOp]
      go_simp
      refine (NY.out A5 c5 _ ((L11.out.step hb).get (A := A5) (c := c5) (xs := digs my.natAbs) (by simp))).mono ?_
      rintro e y ⟨A', c', rfl, hd, hbb⟩
      exact hK _ y ⟨A', c', rfl, hd⟩ hbb (fun h => by cases h)
    · simp only [wpOp, List.getElem?_toArray, List.getElem?_cons_succ, List.getElem?_cons_zero]
      have eg : a.tmps.getD 52 undef = .bool true := hw 20 (by kernel_rfl)
      refine ite_yes (wanted_yes rfl (yielded_of (t := 52) (by kernel_rfl) eg)) ?_
      clear eg
      refine Or.inl ?_
      obtain ⟨A0_, c0_, e0, d0_⟩ := hw 22 (by kernel_rfl)
      have e0 : a.tmps.getD 54 undef = _ := e0
      obtain ⟨A1_, c1_, e1, d1_⟩ := hw 24 (by kernel_rfl)
      have e1 : a.tmps.getD 56 undef = _ := e1
      clear hw hF
      simp only [Oper.wp, execOp]
      go_simp
      refine (dcmp_any (m := nx_) (n := ny_) (x := yx) (y := yy) (q := -j) d0_ d1_ LNx.out LNy.out RNx.out RNy.out C2.out).mono ?_
      rintro e y ⟨rfl, hbb⟩
      exact hK _ y rfl hbb (fun h => by cases h)
    · simp only [wpOp, List.getElem?_toArray, List.getElem?_cons_succ, List.getElem?_cons_zero]
      have eg : a.tmps.getD 52 undef = .bool true := hw 20 (by kernel_rfl)
      refine ite_yes (wanted_yes rfl (yielded_of (t := 52) (by kernel_rfl) eg)) ?_
      clear eg
      refine Or.inl ?_
      have e0 : a.eval (.tmp 11) = .int .i64 j := hF.2.2 11 (by decide)
      clear hw hF
      simp only [Oper.wp, execOp]
      rw [e0]
      go_simp
      exact hK _ x (by first | rfl | simp) (Below.refl _ _) (fun h => by cases h)
    · simp only [wpOp, List.getElem?_toArray, List.getElem?_cons_succ, List.getElem?_cons_zero]
      have eg : a.tmps.getD 52 undef = .bool true := hw 20 (by kernel_rfl)
      refine ite_yes (wanted_yes rfl (yielded_of (t := 52) (by kernel_rfl) eg)) ?_
      clear eg
      refine Or.inl ?_
      have e0 : a.tmps.getD 58 undef = .int .i64 j := hw 26 (by kernel_rfl)
      clear hw hF
      have g1 := G1.out
      have hq := HQ.out
      have j0 := J0.out
      have j1 := J1.out
      have qq : (q == q) = true := by simp
      have jj : (j == j) = true := by simp
      have nn : (-j == -j) = true := by simp
      have hwr : IntKind.i64.wrap (-j) = -j := by rw [IntWalk.i64_in _ (by omega)]
      have g2 := G2.out
      simp only [Oper.wp, execOp]
      go_simp
      exact hK _ x (by first | rfl | simp) (Below.refl _ _) (fun h => by cases h)
    · simp only [wpOp, List.getElem?_toArray, List.getElem?_cons_succ, List.getElem?_cons_zero]
      have eg : a.tmps.getD 52 undef = .bool true := hw 20 (by kernel_rfl)
      refine ite_yes (wanted_yes rfl (yielded_of (t := 52) (by kernel_rfl) eg)) ?_
      clear eg
      refine Or.inl ?_
      have e0 : a.tmps.getD 57 undef = .int .i64 (-j) := hw 25 (by kernel_rfl)
      have e1 : a.tmps.getD 59 undef = .int .i64 (-j) := hw 27 (by kernel_rfl)
      clear hw hF
      have g1 := G1.out
      have hq := HQ.out
      have j0 := J0.out
      have j1 := J1.out
      have qq : (q == q) = true := by simp
      have jj : (j == j) = true := by simp
      have nn : (-j == -j) = true := by simp
      have hwr : IntKind.i64.wrap (-j) = -j := by rw [IntWalk.i64_in _ (by omega)]
      have g2 := G2.out
      simp only [Oper.wp, execOp]
      go_simp
      exact hK _ x (by first | rfl | simp) (Below.refl _ _) (fun h => by cases h)
    · simp only [wpOp, List.getElem?_toArray, List.getElem?_cons_succ, List.getElem?_cons_zero, Region.wanted, if_true]
      refine Or.inl ?_
      have e0 : a.tmps.getD 52 undef = .bool true := hw 20 (by kernel_rfl)
      have e1 : a.tmps.getD 60 undef = .bool true := hw 28 (by kernel_rfl)
      clear hw hF
      have g1 := G1.out
      have hq := HQ.out
      have j0 := J0.out
      have j1 := J1.out
      have qq : (q == q) = true := by simp
      have jj : (j == j) = true := by simp
      have nn : (-j == -j) = true := by simp
      have hwr : IntKind.i64.wrap (-j) = -j := by rw [IntWalk.i64_in _ (by omega)]
      have g2 := G2.out
      simp only [Oper.wp, execOp]
      go_simp
      exact hK _ x (by first | rfl | simp) (Below.refl _ _) (fun h => by cases h)
    · simp only [wpOp, List.getElem?_toArray, List.getElem?_cons_succ, List.getElem?_cons_zero, Region.wanted, if_true]
      refine Or.inl ?_
      have e0 : a.tmps.getD 61 undef = .bool true := hw 29 (by kernel_rfl)
      clear hw hF
      simp only [Oper.wp, execOp]
      go_simp
      exact hK _ x (by first | rfl | simp) (Below.refl _ _) (fun h => by cases h)
    · simp only [wpOp, List.getElem?_toArray, List.getElem?_cons_succ, List.getElem?_cons_zero]
      have eg : a.tmps.getD 62 undef = .bool true := hw 30 (by kernel_rfl)
      refine ite_yes (wanted_yes rfl (yielded_of (t := 62) (by kernel_rfl) eg)) ?_
      clear eg
      refine Or.inl ?_
      have e0 : a.eval (.tmp 11) = .int .i64 j := hF.2.2 11 (by decide)
      clear hw hF
      simp only [Oper.wp, execOp]
      rw [e0]
      go_simp
      exact hK _ x (by first | rfl | simp) (Below.refl _ _) (fun h => by cases h)
    · simp only [wpOp, List.getElem?_toArray, List.getElem?_cons_succ, List.getElem?_cons_zero]
      have eg : a.tmps.getD 62 undef = .bool true := hw 30 (by kernel_rfl)
      refine ite_yes (wanted_yes rfl (yielded_of (t := 62) (by kernel_rfl) eg)) ?_
      clear eg
      refine Or.inl ?_
      have e0 : a.tmps.getD 63 undef = .int .i64 j := hw 31 (by kernel_rfl)
      clear hw hF
      have g1 := G1.out
      have hq := HQ.out
      have j0 := J0.out
      have j1 := J1.out
      have qq : (q == q) = true := by simp
      have jj : (j == j) = true := by simp
      have nn : (-j == -j) = true := by simp
      have hwr : IntKind.i64.wrap (-j) = -j := by rw [IntWalk.i64_in _ (by omega)]
      have g2 := G2.out
      simp only [Oper.wp, execOp]
      go_simp
      exact hK _ x (by first | rfl | simp) (Below.refl _ _) (fun h => by cases h)
    · simp only [wpOp, List.getElem?_toArray, List.getElem?_cons_succ, List.getElem?_cons_zero]
      have eg : a.tmps.getD 62 undef = .bool true := hw 30 (by kernel_rfl)
      refine ite_yes (wanted_yes rfl (yielded_of (t := 62) (by kernel_rfl) eg)) ?_
      clear eg
      refine Or.inl ?_
      have e0 : a.tmps.getD 64 undef = .bool false := hw 32 (by kernel_rfl)
      clear hw hF
      simp only [Oper.wp, execOp]
      go_simp
      exact hK _ x (by first | rfl | simp) (Below.refl _ _) (fun h => by cases h)
    · simp only [wpOp, List.getElem?_toArray, List.getElem?_cons_succ, List.getElem?_cons_zero]
      have eg : a.tmps.getD 65 undef = .bool false := hw 33 (by kernel_rfl)
      refine ite_yes (wanted_yes rfl (yielded_of (t := 65) (by kernel_rfl) eg)) ?_
      clear eg
      refine Or.inl ?_
      have e0 : a.eval (.tmp 9) = .pointer (some ⟨w5.heap.size, 0, none⟩) := hF.2.2 9 (by decide)
      have f0 := row_cell Rty_11.out hb 0
      have f1 := row_cell Rty_11.out hb 1
      have f2 := row_cell Rty_11.out hb 2
      simp only [List.getElem?_toArray, List.getElem?_cons_succ, List.getElem?_cons_zero] at f0 f1 f2
      clear hw hF
      simp only [Oper.wp, execOp]
      rw [e0]
      go_simp
      exact hK _ x (by first | rfl | simp) (Below.refl _ _) (fun h => by cases h)
    · simp only [wpOp, List.getElem?_toArray, List.getElem?_cons_succ, List.getElem?_cons_zero]
      have eg : a.tmps.getD 65 undef = .bool false := hw 33 (by kernel_rfl)
      refine ite_yes (wanted_yes rfl (yielded_of (t := 65) (by kernel_rfl) eg)) ?_
      clear eg
      refine Or.inl ?_
      have e0 : a.eval (.tmp 10) = .pointer (some ⟨w7.heap.size, 0, none⟩) := hF.2.2 10 (by decide)
      have f0 := row_cell Rtz_11.out hb 0
      have f1 := row_cell Rtz_11.out hb 1
      have f2 := row_cell Rtz_11.out hb 2
      simp only [List.getElem?_toArray, List.getElem?_cons_succ, List.getElem?_cons_zero] at f0 f1 f2
      clear hw hF
      simp only [Oper.wp, execOp]
      rw [e0]
      go_simp
      exact hK _ x (by first | rfl | simp) (Below.refl _ _) (fun h => by cases h)
    · simp only [wpOp, List.getElem?_toArray, List.getElem?_cons_succ, List.getElem?_cons_zero]
      have eg : a.tmps.getD 65 undef = .bool false := hw 33 (by kernel_rfl)
      refine ite_yes (wanted_yes rfl (yielded_of (t := 65) (by kernel_rfl) eg)) ?_
      clear eg
      refine Or.inl ?_
      have e0 : a.tmps.getD 66 undef = .agg #[.bool (decide (my < 0)), .slice A5 (digs my.natAbs).length c5, .int .i64 yy] := hw 34 (by kernel_rfl)
      have e1 : a.tmps.getD 67 undef = .agg #[.bool (decide (mz < 0)), .slice A7 (digs mz.natAbs).length c7, .int .i64 yz] := hw 35 (by kernel_rfl)
      clear hw hF
      simp only [Oper.wp, execOp]
      go_simp
      refine (dcmp_any (m := my) (n := mz) (x := yy) (y := yz) (q := j2) ((L11.out.step hb).get (A := A5) (c := c5) (xs := digs my.natAbs) (by simp)) ((L11.out.step hb).get (A := A7) (c := c7) (xs := digs mz.natAbs) (by simp)) (Nat.le_trans Dy.out (by omega)) (Nat.le_trans Dz.out (by omega)) Ry.out Rz.out C3.out).mono ?_
      rintro e y ⟨rfl, hbb⟩
      exact hK _ y rfl hbb (fun h => by cases h)
    · simp only [wpOp, List.getElem?_toArray, List.getElem?_cons_succ, List.getElem?_cons_zero]
      have eg : a.tmps.getD 65 undef = .bool false := hw 33 (by kernel_rfl)
      refine ite_yes (wanted_yes rfl (yielded_of (t := 65) (by kernel_rfl) eg)) ?_
      clear eg
      refine Or.inl ?_
      have e0 : a.tmps.getD 68 undef = .int .i64 j2 := hw 36 (by kernel_rfl)
      clear hw hF
      have g1 := G1.out
      have hq := HQ.out
      have j0 := J0.out
      have j1 := J1.out
      have qq : (q == q) = true := by simp
      have jj : (j == j) = true := by simp
      have nn : (-j == -j) = true := by simp
      have hwr : IntKind.i64.wrap (-j) = -j := by rw [IntWalk.i64_in _ (by omega)]
      have g2 := G2.out
      simp only [Oper.wp, execOp]
      go_simp
      exact hK _ x (by first | rfl | simp) (Below.refl _ _) (fun h => by cases h)
    · simp only [wpOp, List.getElem?_toArray, List.getElem?_cons_succ, List.getElem?_cons_zero]
      have eg : a.tmps.getD 62 undef = .bool true := hw 30 (by kernel_rfl)
      refine ite_yes (wanted_yes rfl (yielded_of (t := 62) (by kernel_rfl) eg)) ?_
      clear eg
      refine Or.inl ?_
      have e0 : a.tmps.getD 65 undef = .bool false := hw 33 (by kernel_rfl)
      have e1 : a.tmps.getD 69 undef = .bool true := hw 37 (by kernel_rfl)
      clear hw hF
      have g1 := G1.out
      have hq := HQ.out
      have j0 := J0.out
      have j1 := J1.out
      have qq : (q == q) = true := by simp
      have jj : (j == j) = true := by simp
      have nn : (-j == -j) = true := by simp
      have hwr : IntKind.i64.wrap (-j) = -j := by rw [IntWalk.i64_in _ (by omega)]
      have g2 := G2.out
      simp only [Oper.wp, execOp]
      go_simp
      exact hK _ x (by first | rfl | simp) (Below.refl _ _) (fun h => by cases h)
    · simp only [wpOp, List.getElem?_toArray, List.getElem?_cons_succ, List.getElem?_cons_zero]
      have eg : a.tmps.getD 62 undef = .bool true := hw 30 (by kernel_rfl)
      refine ite_yes (wanted_yes rfl (yielded_of (t := 62) (by kernel_rfl) eg)) ?_
      clear eg
      refine Or.inl ?_
      have e0 : a.tmps.getD 70 undef = .bool true := hw 38 (by kernel_rfl)
      clear hw hF
      simp only [Oper.wp, execOp]
      go_simp
      exact hK _ x (by first | rfl | simp) (Below.refl _ _) (fun h => by cases h)
    · simp only [wpOp, List.getElem?_toArray, List.getElem?_cons_succ, List.getElem?_cons_zero]
      have eg : a.tmps.getD 71 undef = .bool true := hw 39 (by kernel_rfl)
      refine ite_not (wanted_not rfl (yielded_of (t := 71) (by kernel_rfl) eg)) ?_
      exact hK _ x rfl (Below.refl _ _) (fun h => by cases h)
    · simp only [wpOp, List.getElem?_toArray, List.getElem?_cons_succ, List.getElem?_cons_zero]
      have eg : a.tmps.getD 71 undef = .bool true := hw 39 (by kernel_rfl)
      refine ite_not (wanted_not rfl (yielded_of (t := 71) (by kernel_rfl) eg)) ?_
      exact hK _ x rfl (Below.refl _ _) (fun h => by cases h)
    · simp only [wpOp, List.getElem?_toArray, List.getElem?_cons_succ, List.getElem?_cons_zero]
      have eg : a.tmps.getD 71 undef = .bool true := hw 39 (by kernel_rfl)
      refine ite_not (wanted_not rfl (yielded_of (t := 71) (by kernel_rfl) eg)) ?_
      exact hK _ x rfl (Below.refl _ _) (fun h => by cases h)
    · simp only [wpOp, List.getElem?_toArray, List.getElem?_cons_succ, List.getElem?_cons_zero]
      have eg : a.tmps.getD 71 undef = .bool true := hw 39 (by kernel_rfl)
      refine ite_not (wanted_not rfl (yielded_of (t := 71) (by kernel_rfl) eg)) ?_
      exact hK _ x rfl (Below.refl _ _) (fun h => by cases h)
    · simp only [wpOp, List.getElem?_toArray, List.getElem?_cons_succ, List.getElem?_cons_zero]
      have eg : a.tmps.getD 62 undef = .bool true := hw 30 (by kernel_rfl)
      refine ite_yes (wanted_yes rfl (yielded_of (t := 62) (by kernel_rfl) eg)) ?_
      clear eg
      refine Or.inl ?_
      have e0 : a.tmps.getD 71 undef = .bool true := hw 39 (by kernel_rfl)
      clear hw hF
      have g1 := G1.out
      have hq := HQ.out
      have j0 := J0.out
      have j1 := J1.out
      have qq : (q == q) = true := by simp
      have jj : (j == j) = true := by simp
      have nn : (-j == -j) = true := by simp
      have hwr : IntKind.i64.wrap (-j) = -j := by rw [IntWalk.i64_in _ (by omega)]
      have g2 := G2.out
      simp only [Oper.wp, execOp]
      go_simp
      exact hK _ x (by first | rfl | simp) (Below.refl _ _) (fun h => by cases h)
    · simp only [wpOp, List.getElem?_toArray, List.getElem?_cons_succ, List.getElem?_cons_zero, Region.wanted, if_true]
      refine Or.inl ?_
      have e0 : a.tmps.getD 62 undef = .bool true := hw 30 (by kernel_rfl)
      have e1 : a.tmps.getD 76 undef = .bool true := hw 44 (by kernel_rfl)
      clear hw hF
      have g1 := G1.out
      have hq := HQ.out
      have j0 := J0.out
      have j1 := J1.out
      have qq : (q == q) = true := by simp
      have jj : (j == j) = true := by simp
      have nn : (-j == -j) = true := by simp
      have hwr : IntKind.i64.wrap (-j) = -j := by rw [IntWalk.i64_in _ (by omega)]
      have g2 := G2.out
      simp only [Oper.wp, execOp]
      go_simp
      exact hK _ x (by first | rfl | simp) (Below.refl _ _) (fun h => by cases h)
    · simp only [wpOp, List.getElem?_toArray, List.getElem?_cons_succ, List.getElem?_cons_zero, Region.wanted, if_true]
      refine Or.inl ?_
      have e0 : a.tmps.getD 77 undef = .bool true := hw 45 (by kernel_rfl)
      clear hw hF
      simp only [Oper.wp, execOp]
      go_simp
      exact hK _ x (by first | rfl | simp) (Below.refl _ _) (fun h => by cases h)
    · simp only [wpOp, List.getElem?_toArray, List.getElem?_cons_succ, List.getElem?_cons_zero]
      have eg : a.tmps.getD 78 undef = .bool true := hw 46 (by kernel_rfl)
      refine ite_yes (wanted_yes rfl (yielded_of (t := 78) (by kernel_rfl) eg)) ?_
      clear eg
      refine Or.inl ?_
      have e0 : a.eval (.tmp 11) = .int .i64 j := hF.2.2 11 (by decide)
      clear hw hF
      simp only [Oper.wp, execOp]
      rw [e0]
      go_simp
      exact hK _ x (by first | rfl | simp) (Below.refl _ _) (fun h => by cases h)
    · simp only [wpOp, List.getElem?_toArray, List.getElem?_cons_succ, List.getElem?_cons_zero]
      have eg : a.tmps.getD 78 undef = .bool true := hw 46 (by kernel_rfl)
      refine ite_yes (wanted_yes rfl (yielded_of (t := 78) (by kernel_rfl) eg)) ?_
      clear eg
      refine Or.inl ?_
      have e0 : a.tmps.getD 79 undef = .int .i64 j := hw 47 (by kernel_rfl)
      clear hw hF
      have g1 := G1.out
      have hq := HQ.out
      have j0 := J0.out
      have j1 := J1.out
      have qq : (q == q) = true := by simp
      have jj : (j == j) = true := by simp
      have nn : (-j == -j) = true := by simp
      have hwr : IntKind.i64.wrap (-j) = -j := by rw [IntWalk.i64_in _ (by omega)]
      have g2 := G2.out
      simp only [Oper.wp, execOp]
      go_simp
      exact hK _ x (by first | rfl | simp) (Below.refl _ _) (fun h => by cases h)
    · simp only [wpOp, List.getElem?_toArray, List.getElem?_cons_succ, List.getElem?_cons_zero]
      have eg : a.tmps.getD 78 undef = .bool true := hw 46 (by kernel_rfl)
      refine ite_yes (wanted_yes rfl (yielded_of (t := 78) (by kernel_rfl) eg)) ?_
      clear eg
      refine Or.inl ?_
      have e0 : a.eval (.tmp 8) = .pointer (some ⟨w3.heap.size, 0, none⟩) := hF.2.2 8 (by decide)
      have f0 := row_cell Rtx_11.out hb 0
      have f1 := row_cell Rtx_11.out hb 1
      have f2 := row_cell Rtx_11.out hb 2
      simp only [List.getElem?_toArray, List.getElem?_cons_succ, List.getElem?_cons_zero] at f0 f1 f2
      clear hw hF
      simp only [Oper.wp, execOp]
      rw [e0]
      go_simp
      exact hK _ x (by first | rfl | simp) (Below.refl _ _) (fun h => by cases h)
    · simp only [wpOp, List.getElem?_toArray, List.getElem?_cons_succ, List.getElem?_cons_zero]
      have eg : a.tmps.getD 78 undef = .bool true := hw 46 (by kernel_rfl)
      refine ite_yes (wanted_yes rfl (yielded_of (t := 78) (by kernel_rfl) eg)) ?_
      clear eg
      refine Or.inl ?_
      have e0 : a.eval (.tmp 9) = .pointer (some ⟨w5.heap.size, 0, none⟩) := hF.2.2 9 (by decide)
      have f0 := row_cell Rty_11.out hb 0
      have f1 := row_cell Rty_11.out hb 1
      have f2 := row_cell Rty_11.out hb 2
      simp only [List.getElem?_toArray, List.getElem?_cons_succ, List.getElem?_cons_zero] at f0 f1 f2
      clear hw hF
      simp only [Oper.wp, execOp]
      rw [e0]
      go_simp
      exact hK _ x (by first | rfl | simp) (Below.refl _ _) (fun h => by cases h)
    · simp only [wpOp, List.getElem?_toArray, List.getElem?_cons_succ, List.getElem?_cons_zero]
      have eg : a.tmps.getD 78 undef = .bool true := hw 46 (by kernel_rfl)
      refine ite_yes (wanted_yes rfl (yielded_of (t := 78) (by kernel_rfl) eg)) ?_
      clear eg
      refine Or.inl ?_
      have e0 : a.tmps.getD 81 undef = .agg #[.bool (decide (mx < 0)), .slice A3 (digs mx.natAbs).length c3, .int .i64 yx] := hw 49 (by kernel_rfl)
      have e1 : a.tmps.getD 82 undef = .agg #[.bool (decide (my < 0)), .slice A5 (digs my.natAbs).length c5, .int .i64 yy] := hw 50 (by kernel_rfl)
      clear hw hF
      simp only [Oper.wp, execOp]
      go_simp
      refine (dsame_d (m := mx) (n := my) (x := yx) (y := yy) (q := q) ((L11.out.step hb).get (A := A3) (c := c3) (xs := digs mx.natAbs) (by simp)) ((L11.out.step hb).get (A := A5) (c := c5) (xs := digs my.natAbs) (by simp)) Dx.out HS.out).mono ?_
      rintro e y ⟨rfl, hbb⟩
      exact hK _ y rfl hbb (fun h => by cases h)
    · simp only [wpOp, List.getElem?_toArray, List.getElem?_cons_succ, List.getElem?_cons_zero]
      have eg : a.tmps.getD 78 undef = .bool true := hw 46 (by kernel_rfl)
      refine ite_yes (wanted_yes rfl (yielded_of (t := 78) (by kernel_rfl) eg)) ?_
      clear eg
      refine Or.inl ?_
      have e0 : a.tmps.getD 80 undef = .bool q := hw 48 (by kernel_rfl)
      have e1 : a.tmps.getD 83 undef = .bool q := hw 51 (by kernel_rfl)
      clear hw hF
      have g1 := G1.out
      have hq := HQ.out
      have j0 := J0.out
      have j1 := J1.out
      have qq : (q == q) = true := by simp
      have jj : (j == j) = true := by simp
      have nn : (-j == -j) = true := by simp
      have hwr : IntKind.i64.wrap (-j) = -j := by rw [IntWalk.i64_in _ (by omega)]
      have g2 := G2.out
      simp only [Oper.wp, execOp]
      go_simp
      exact hK _ x (by first | rfl | simp) (Below.refl _ _) (fun h => by cases h)
    · simp only [wpOp, List.getElem?_toArray, List.getElem?_cons_succ, List.getElem?_cons_zero, Region.wanted, if_true]
      refine Or.inl ?_
      have e0 : a.tmps.getD 78 undef = .bool true := hw 46 (by kernel_rfl)
      have e1 : a.tmps.getD 84 undef = .bool true := hw 52 (by kernel_rfl)
      clear hw hF
      have g1 := G1.out
      have hq := HQ.out
      have j0 := J0.out
      have j1 := J1.out
      have qq : (q == q) = true := by simp
      have jj : (j == j) = true := by simp
      have nn : (-j == -j) = true := by simp
      have hwr : IntKind.i64.wrap (-j) = -j := by rw [IntWalk.i64_in _ (by omega)]
      have g2 := G2.out
      simp only [Oper.wp, execOp]
      go_simp
      exact hK _ x (by first | rfl | simp) (Below.refl _ _) (fun h => by cases h)
  · intro a x hF hb hR _
    have e0 : a.tmps.getD 32 undef = .bool true := hR 0 (by decide)
    have e1 : a.tmps.getD 33 undef = .bool true := hR 1 (by decide)
    have e2 : a.tmps.getD 34 undef = .int .i64 0 := hR 2 (by decide)
    have e3 : a.tmps.getD 35 undef = .bool true := hR 3 (by decide)
    have e4 : a.tmps.getD 36 undef = .bool true := hR 4 (by decide)
    have e5 : a.tmps.getD 37 undef = .bool true := hR 5 (by decide)
    have e6 : a.tmps.getD 38 undef = .agg #[.bool (decide (Md < 0)), .slice A10 (digs Md.natAbs).length c10, .int .i64 Ed] := hR 6 (by decide)
    have e7 : a.tmps.getD 39 undef = .agg #[.bool false, .slice none 0 0, .int .i64 0] := hR 7 (by decide)
    have e8 : a.tmps.getD 40 undef = .int .i64 j := hR 8 (by decide)
    have e9 : a.tmps.getD 41 undef = .int .i64 j := hR 9 (by decide)
    have e10 : a.tmps.getD 42 undef = .bool true := hR 10 (by decide)
    have e11 : a.tmps.getD 43 undef = .bool true := hR 11 (by decide)
    have e12 : a.tmps.getD 44 undef = .bool true := hR 12 (by decide)
    have e13 : a.tmps.getD 45 undef = .agg #[.bool (decide (my < 0)), .slice A5 (digs my.natAbs).length c5, .int .i64 yy] := hR 13 (by decide)
    have e14 : a.tmps.getD 46 undef = .agg #[.bool (decide (mx < 0)), .slice A3 (digs mx.natAbs).length c3, .int .i64 yx] := hR 14 (by decide)
    have e15 : a.tmps.getD 47 undef = .int .i64 (-j) := hR 15 (by decide)
    have e16 : a.tmps.getD 48 undef = .int .i64 j := hR 16 (by decide)
    have e17 : a.tmps.getD 49 undef = .int .i64 (-j) := hR 17 (by decide)
    have e18 : a.tmps.getD 50 undef = .bool true := hR 18 (by decide)
    have e19 : a.tmps.getD 51 undef = .bool true := hR 19 (by decide)
    have e20 : a.tmps.getD 52 undef = .bool true := hR 20 (by decide)
    have e21 : a.tmps.getD 53 undef = .agg #[.bool (decide (mx < 0)), .slice A3 (digs mx.natAbs).length c3, .int .i64 yx] := hR 21 (by decide)
    obtain ⟨_, _, e22, _⟩ := hR 22 (by decide)
    have e22 : a.tmps.getD 54 undef = _ := e22
    have e23 : a.tmps.getD 55 undef = .agg #[.bool (decide (my < 0)), .slice A5 (digs my.natAbs).length c5, .int .i64 yy] := hR 23 (by decide)
    obtain ⟨_, _, e24, _⟩ := hR 24 (by decide)
    have e24 : a.tmps.getD 56 undef = _ := e24
    have e25 : a.tmps.getD 57 undef = .int .i64 (-j) := hR 25 (by decide)
    have e26 : a.tmps.getD 58 undef = .int .i64 j := hR 26 (by decide)
    have e27 : a.tmps.getD 59 undef = .int .i64 (-j) := hR 27 (by decide)
    have e28 : a.tmps.getD 60 undef = .bool true := hR 28 (by decide)
    have e29 : a.tmps.getD 61 undef = .bool true := hR 29 (by decide)
    have e30 : a.tmps.getD 62 undef = .bool true := hR 30 (by decide)
    have e31 : a.tmps.getD 63 undef = .int .i64 j := hR 31 (by decide)
    have e32 : a.tmps.getD 64 undef = .bool false := hR 32 (by decide)
    have e33 : a.tmps.getD 65 undef = .bool false := hR 33 (by decide)
    have e34 : a.tmps.getD 66 undef = .agg #[.bool (decide (my < 0)), .slice A5 (digs my.natAbs).length c5, .int .i64 yy] := hR 34 (by decide)
    have e35 : a.tmps.getD 67 undef = .agg #[.bool (decide (mz < 0)), .slice A7 (digs mz.natAbs).length c7, .int .i64 yz] := hR 35 (by decide)
    have e36 : a.tmps.getD 68 undef = .int .i64 j2 := hR 36 (by decide)
    have e37 : a.tmps.getD 69 undef = .bool true := hR 37 (by decide)
    have e38 : a.tmps.getD 70 undef = .bool true := hR 38 (by decide)
    have e39 : a.tmps.getD 71 undef = .bool true := hR 39 (by decide)
    have e40 : a.tmps.getD 72 undef = undef := hR 40 (by decide)
    have e41 : a.tmps.getD 73 undef = undef := hR 41 (by decide)
    have e42 : a.tmps.getD 74 undef = undef := hR 42 (by decide)
    have e43 : a.tmps.getD 75 undef = undef := hR 43 (by decide)
    have e44 : a.tmps.getD 76 undef = .bool true := hR 44 (by decide)
    have e45 : a.tmps.getD 77 undef = .bool true := hR 45 (by decide)
    have e46 : a.tmps.getD 78 undef = .bool true := hR 46 (by decide)
    have e47 : a.tmps.getD 79 undef = .int .i64 j := hR 47 (by decide)
    have e48 : a.tmps.getD 80 undef = .bool q := hR 48 (by decide)
    have e49 : a.tmps.getD 81 undef = .agg #[.bool (decide (mx < 0)), .slice A3 (digs mx.natAbs).length c3, .int .i64 yx] := hR 49 (by decide)
    have e50 : a.tmps.getD 82 undef = .agg #[.bool (decide (my < 0)), .slice A5 (digs my.natAbs).length c5, .int .i64 yy] := hR 50 (by decide)
    have e51 : a.tmps.getD 83 undef = .bool q := hR 51 (by decide)
    have e52 : a.tmps.getD 84 undef = .bool true := hR 52 (by decide)
    have e53 : a.tmps.getD 85 undef = .bool true := hR 53 (by decide)
    rw [hF.fold (by kernel_rfl)]
    simp only [List.foldl_cons, List.foldl_nil, e0, e1, e2, e3, e4, e5, e6, e7, e8, e9, e10, e11, e12, e13, e14, e15, e16, e17, e18, e19, e20, e21, e22, e23, e24, e25, e26, e27, e28, e29, e30, e31, e32, e33, e34, e35, e36, e37, e38, e39, e40, e41, e42, e43, e44, e45, e46, e47, e48, e49, e50, e51, e52, e53]
    simp only [Act.put, List.setIfInBounds_toArray, List.set_cons_zero, List.set_cons_succ]
    change wpOps _ _ _ [54] _ _
    simp only [wpOps_cons]
    clear e0 e1 e2 e3 e4 e5 e6 e7 e8 e9 e10 e11 e12 e13 e14 e15 e16 e17 e18 e19 e20 e21 e22 e23 e24 e25 e26 e27 e28 e29 e30 e31 e32 e33 e34 e35 e36 e37 e38 e39 e40 e41 e42 e43 e44 e45 e46 e47 e48 e49 e50 e51 e52 e53 hR hF
    have HE := Lib.hid (L11.out.step hb)
    simp only [wpOp, List.getElem?_toArray, List.getElem?_cons_succ, List.getElem?_cons_zero, Region.wanted, if_true]
    refine Or.inl ?_
    simp only [Oper.wp, execOp]
    go_simp
    try simp only [wpOps]
    go_wp2
    go_ret
    exact ⟨rfl, HE.out.1⟩
end Go.Proofs.YtnfafgpnnpapdaaDoor
end

section
/-
  DyadOrder: a case.
-/
namespace Go.Proofs.YtnfafgpnnpapdaaDoor
open Go.RowKit
set_option linter.unusedSimpArgs false
set_option linter.unusedVariables false
set_option maxHeartbeats 8000000 in
set_option maxRecDepth 100000 in
theorem dyadOrder_e  (Ax : Option Addr) (cx : Nat) (sx : Bool) (xsx : List Nat) (ex : Int) (Ay : Option Addr) (cy : Nat) (sy : Bool) (xsy : List Nat) (ey : Int) (Az : Option Addr) (cz : Nat) (sz : Bool) (xsz : List Nat) (ez : Int) (w : World)  (hx : Dg w Ax cx xsx) (lx : xsx.length ≤ 9223372036854775807) (ex0 : -9223372036854775808 ≤ ex) (ex1 : ex ≤ 9223372036854775807) (hy : Dg w Ay cy xsy) (ly : xsy.length ≤ 9223372036854775807) (ey0 : -9223372036854775808 ≤ ey) (ey1 : ey ≤ 9223372036854775807) (hz : Dg w Az cz xsz) (lz : xsz.length ≤ 9223372036854775807) (ez0 : -9223372036854775808 ≤ ez) (ez1 : ez ≤ 9223372036854775807) (hT : T32 w) (c1 : ¬ 0 < cmpd (dv (nm (sg sx (val (xsx.take 6)))) (nx (sg sx (val (xsx.take 6))) (tameE ex))) (dv (nm (sg sy (val (xsy.take 6)))) (nx (sg sy (val (xsy.take 6))) (tameE ey)))) (c2 : ¬ 0 < cmpd (dv (nm (sg sy (val (xsy.take 6)))) (nx (sg sy (val (xsy.take 6))) (tameE ey))) (dv (nm (sg sz (val (xsz.take 6)))) (nx (sg sz (val (xsz.take 6))) (tameE ez)))):
    Calls Tryd.prog 13 #[.agg #[.bool sx, .slice Ax xsx.length cx, .int .i64 ex], .agg #[.bool sy, .slice Ay xsy.length cy, .int .i64 ey], .agg #[.bool sz, .slice Az xsz.length cz, .int .i64 ez]] w fun e w' => e = .returned (.bool true) ∧ Below w.heap.size w w' := by
  obtain ⟨mx, hmx⟩ : ∃ m, nm (sg sx (val (xsx.take 6))) = m := ⟨_, rfl⟩
  obtain ⟨yx, hyx⟩ : ∃ m, nx (sg sx (val (xsx.take 6))) (tameE ex) = m := ⟨_, rfl⟩
  have tx : Tm mx yx := hmx ▸ hyx ▸ tame_tm hx.2.1
  have bx := tx.bd
  have HMx := Lib.hid hmx
  have HYx := Lib.hid hyx
  have LXx := Lib.hid lx
  have E0x := Lib.hid ex0
  have E1x := Lib.hid ex1
  have Rx := Lib.hid tx.rt
  have Ix := Lib.hid tx.inR
  have Dx := Lib.hid (inr_len tx.inR)
  obtain ⟨my, hmy⟩ : ∃ m, nm (sg sy (val (xsy.take 6))) = m := ⟨_, rfl⟩
  obtain ⟨yy, hyy⟩ : ∃ m, nx (sg sy (val (xsy.take 6))) (tameE ey) = m := ⟨_, rfl⟩
  have ty : Tm my yy := hmy ▸ hyy ▸ tame_tm hy.2.1
  skip
  have HMy := Lib.hid hmy
  have HYy := Lib.hid hyy
  have LXy := Lib.hid ly
  have E0y := Lib.hid ey0
  have E1y := Lib.hid ey1
  have Ry := Lib.hid ty.rt
  have Iy := Lib.hid ty.inR
  have Dy := Lib.hid (inr_len ty.inR)
  obtain ⟨mz, hmz⟩ : ∃ m, nm (sg sz (val (xsz.take 6))) = m := ⟨_, rfl⟩
  obtain ⟨yz, hyz⟩ : ∃ m, nx (sg sz (val (xsz.take 6))) (tameE ez) = m := ⟨_, rfl⟩
  have tz : Tm mz yz := hmz ▸ hyz ▸ tame_tm hz.2.1
  have bz := tz.bd
  have HMz := Lib.hid hmz
  have HYz := Lib.hid hyz
  have LXz := Lib.hid lz
  have E0z := Lib.hid ez0
  have E1z := Lib.hid ez1
  have Rz := Lib.hid tz.rt
  have Iz := Lib.hid tz.inR
  have Dz := Lib.hid (inr_len tz.inR)
  rw [hmx, hyx, hmy, hyy] at c1
  rw [hmy, hyy, hmz, hyz] at c2
  have byy := ty.bd
  obtain ⟨Md, Ed, i1⟩ := isD_sub mx yx my yy
  have b1 := bx.sub byy i1
  obtain ⟨j, hj⟩ : ∃ c, cmpd (dv mx yx) (dv my yy) = c := ⟨_, rfl⟩
  rw [hj] at c1
  have j0 : -1 ≤ j ∧ j ≤ 1 := by rw [← hj]; unfold cmpd; split <;> (try split) <;> omega
  have J0 := Lib.hid j0.1
  have J1 := Lib.hid j0.2
  have HJ := Lib.hid hj
  have HI := Lib.hid i1
  have C0 := Lib.hid (show cmpd (dv Md Ed) 0 = j by rw [i1.2, cmpd_sub]; exact hj)
  have C1 := Lib.hid (show cmpd (dv my yy) (dv mx yx) = -j by rw [cmpd_swap, hj])
  obtain ⟨nx_, hnx⟩ : ∃ z, -mx = z := ⟨_, rfl⟩
  obtain ⟨ny_, hny⟩ : ∃ z, -my = z := ⟨_, rfl⟩
  have C2 := Lib.hid (show cmpd (dv nx_ yx) (dv ny_ yy) = -j by rw [← hnx, ← hny, dv_neg, dv_neg, cmpd_neg, hj])
  have NX := Lib.hid (fun A c W (h : Dg W A c (digs mx.natAbs)) => neg_yes A c mx yx W h (Nat.le_trans Dx.out (by omega)) Rx.out)
  have NY := Lib.hid (fun A c W (h : Dg W A c (digs my.natAbs)) => neg_yes A c my yy W h (Nat.le_trans Dy.out (by omega)) Ry.out)
  have RNx := Lib.hid (rt_neg Rx.out)
  have RNy := Lib.hid (rt_neg Ry.out)
  have LNx := Lib.hid (show (digs nx_.natAbs).length ≤ 400000 by rw [← hnx, Int.natAbs_neg]; exact Nat.le_trans Dx.out (by omega))
  have LNy := Lib.hid (show (digs ny_.natAbs).length ≤ 400000 by rw [← hny, Int.natAbs_neg]; exact Nat.le_trans Dy.out (by omega))
  rw [hnx] at NX RNx
  rw [hny] at NY RNy
  have G1 := Lib.hid (show decide (0 < j) = false by simp; omega)
  obtain ⟨q, hq⟩ : ∃ q, (j == 0) = q := ⟨_, rfl⟩
  have HQ := Lib.hid hq
  have HS := Lib.hid (show decide (mx = my ∧ yx = yy) = q by rw [← hq, ← hj, Bool.eq_iff_iff]; simp only [beq_iff_eq, decide_eq_true_eq]; rw [cmpd_zero]; constructor; (rintro ⟨h1, h2⟩; rw [h1, h2]); exact fun h => nf_inj tx.1 ty.1 h)
  obtain ⟨j2, hj2⟩ : ∃ c, cmpd (dv my yy) (dv mz yz) = c := ⟨_, rfl⟩
  rw [hj2] at c2
  have C3 := Lib.hid hj2
  have G2 := Lib.hid (show decide (0 < j2) = false by simp; omega)
  obtain ⟨j3, hj3⟩ : ∃ c, cmpd (dv mx yx) (dv mz yz) = c := ⟨_, rfl⟩
  have C4 := Lib.hid hj3
  have G3 := Lib.hid (show decide (j3 ≤ 0) = true by rw [decide_eq_true_eq, ← hj3]; rw [← hj] at c1; rw [← hj2] at c2; have a := cmpd_le.1 (Int.not_lt.1 c1); have b := cmpd_le.1 (Int.not_lt.1 c2); exact cmpd_le.2 (Rat.le_trans a b))
  have Rd := Lib.hid (Bd.rt b1 (by omega) (by omega))
  have Id := Lib.hid (Bd.inR b1 (by omega) (by omega))
  have Dd := Lib.hid (inr_len Id.out)
  have HT := Lib.hid hT
  clear hT
  have L0 := Lib.hid ((((live_start w).add hx).add hy).add hz)
  clear hx lx ex0 ex1 hmx hyx tx bx hy ly ey0 ey1 hmy hyy ty hz lz ez0 ez1 hmz hyz tz bz byy i1 b1 hj j0 c1 hnx hny hq c2 hj2 hj3
  go_enter Tryd.func13, Tryd.ntmps13
  go_wp2_with fail
  obtain ⟨v1, hW⟩ : ∃ W : World, W = (((w.alloc (.cells #[.bool sx, .slice Ax xsx.length cx, .int .i64 ex] 26)).alloc (.cells #[.bool sy, .slice Ay xsy.length cy, .int .i64 ey] 26)).alloc (.cells #[.bool sz, .slice Az xsz.length cz, .int .i64 ez] 26)) := ⟨_, rfl⟩
  rw [← hW]
  have hb : Below w.heap.size w v1 := by rw [hW]; exact ((((Below.refl _ _).alloc (by simp <;> omega) _).alloc (by simp <;> omega) _).alloc (by simp <;> omega) _)
  have L1 := Lib.hid (L0.out.step hb)
  have Rx_1 := Lib.hid (show v1.heap[w.heap.size]? = some (.cells #[.bool sx, .slice Ax xsx.length cx, .int .i64 ex] 26 (0, 0)) by rw [hW]; have := heap_alloc_new w (.cells #[.bool sx, .slice Ax xsx.length cx, .int .i64 ex] 26); rw [heap_alloc_old _ _ (by simp <;> omega)]; rw [heap_alloc_old _ _ (by simp <;> omega)]; simpa using this)
  have Gx : w.heap.size ≤ w.heap.size := by have := L0.out.1.size; omega
  have Ry_1 := Lib.hid (show v1.heap[w.heap.size + 1]? = some (.cells #[.bool sy, .slice Ay xsy.length cy, .int .i64 ey] 26 (0, 0)) by rw [hW]; have := heap_alloc_new (w.alloc (.cells #[.bool sx, .slice Ax xsx.length cx, .int .i64 ex] 26)) (.cells #[.bool sy, .slice Ay xsy.length cy, .int .i64 ey] 26); rw [heap_alloc_old _ _ (by simp <;> omega)]; simpa using this)
  have Gy : w.heap.size ≤ w.heap.size + 1 := by have := L0.out.1.size; omega
  have Nxy : w.heap.size < w.heap.size + 1 := by omega
  have Rz_1 := Lib.hid (show v1.heap[w.heap.size + 1 + 1]? = some (.cells #[.bool sz, .slice Az xsz.length cz, .int .i64 ez] 26 (0, 0)) by rw [hW]; have := heap_alloc_new ((w.alloc (.cells #[.bool sx, .slice Ax xsx.length cx, .int .i64 ex] 26)).alloc (.cells #[.bool sy, .slice Ay xsy.length cy, .int .i64 ey] 26)) (.cells #[.bool sz, .slice Az xsz.length cz, .int .i64 ez] 26); simpa using this)
  have Gz : w.heap.size ≤ w.heap.size + 1 + 1 := by have := L0.out.1.size; omega
  have Nxz : w.heap.size < w.heap.size + 1 + 1 := by omega
  have Nyz : w.heap.size + 1 < w.heap.size + 1 + 1 := by omega
  clear hW hb
  refine (dexamples_any _ (t32_live HT.out L1.out)).mono ?_
  rintro e w2 ⟨rfl, hb⟩
  have L2 := Lib.hid (L1.out.step hb)
  have Rx_2 := Lib.hid (cells_of Rx_1.out hb)
  have Ry_2 := Lib.hid (cells_of Ry_1.out hb)
  have Rz_2 := Lib.hid (cells_of Rz_1.out hb)
  clear hb 
  have fx0 := row_c (i := 0) Rx_2.out rfl
  have zx0 := frozen_of_row _ _ 0 _ _ Rx_2.out
  have fx1 := row_c (i := 1) Rx_2.out rfl
  have zx1 := frozen_of_row _ _ 1 _ _ Rx_2.out
  have fx2 := row_c (i := 2) Rx_2.out rfl
  have zx2 := frozen_of_row _ _ 2 _ _ Rx_2.out
  have xx := heap_lt Rx_2.out
  go_wp2_with fail
  refine (tame_any (M := mx) (E := yx) (L2.out.get (A := Ax) (c := cx) (xs := xsx) (by simp)) (t32_live HT.out L2.out) LXx.out E0x.out E1x.out HMx.out HYx.out).mono ?_
  rintro e w3 ⟨A3, c3, rfl, hd, hb⟩
  have L3 := Lib.hid ((L2.out.step hb).add hd)
  clear fx0 zx0 fx1 zx1 fx2 zx2 xx
  have Rx_3 := Lib.hid (cells_of Rx_2.out hb)
  have Ry_3 := Lib.hid (cells_of Ry_2.out hb)
  have Rz_3 := Lib.hid (cells_of Rz_2.out hb)
  clear hb hd
  have fy0 := row_c (i := 0) Ry_3.out rfl
  have zy0 := frozen_of_row _ _ 0 _ _ Ry_3.out
  have fy1 := row_c (i := 1) Ry_3.out rfl
  have zy1 := frozen_of_row _ _ 1 _ _ Ry_3.out
  have fy2 := row_c (i := 2) Ry_3.out rfl
  have zy2 := frozen_of_row _ _ 2 _ _ Ry_3.out
  have xy := heap_lt Ry_3.out
  go_wp2_with fail
  obtain ⟨w4, hW⟩ : ∃ W : World, W = (w3.alloc (.cells #[.bool (decide (mx < 0)), .slice A3 (digs mx.natAbs).length c3, .int .i64 yx] 26)) := ⟨_, rfl⟩
  rw [← hW]
  have hb : Below w3.heap.size w3 w4 := by rw [hW]; exact ((Below.refl _ _).alloc (by simp <;> omega) _)
  have L4 := Lib.hid (L3.out.step hb)
  have Rx_4 := Lib.hid (cells_of Rx_3.out hb)
  have Ry_4 := Lib.hid (cells_of Ry_3.out hb)
  have Rz_4 := Lib.hid (cells_of Rz_3.out hb)
  have Rtx_4 := Lib.hid (show w4.heap[w3.heap.size]? = some (.cells #[.bool (decide (mx < 0)), .slice A3 (digs mx.natAbs).length c3, .int .i64 yx] 26 (0, 0)) by rw [hW]; have := heap_alloc_new w3 (.cells #[.bool (decide (mx < 0)), .slice A3 (digs mx.natAbs).length c3, .int .i64 yx] 26); simpa using this)
  have Gtx : w.heap.size ≤ w3.heap.size := by have := L3.out.1.size; omega
  have Nxtx : w.heap.size < w3.heap.size := by have := heap_lt Rx_3.out; omega
  have Nytx : w.heap.size + 1 < w3.heap.size := by have := heap_lt Ry_3.out; omega
  have Nztx : w.heap.size + 1 + 1 < w3.heap.size := by have := heap_lt Rz_3.out; omega
  clear hW hb
  clear fy0 zy0 fy1 zy1 fy2 zy2 xy
  refine (tame_any (M := my) (E := yy) (L4.out.get (A := Ay) (c := cy) (xs := xsy) (by simp)) (t32_live HT.out L4.out) LXy.out E0y.out E1y.out HMy.out HYy.out).mono ?_
  rintro e w5 ⟨A5, c5, rfl, hd, hb⟩
  have L5 := Lib.hid ((L4.out.step hb).add hd)
  have Rx_5 := Lib.hid (cells_of Rx_4.out hb)
  have Ry_5 := Lib.hid (cells_of Ry_4.out hb)
  have Rz_5 := Lib.hid (cells_of Rz_4.out hb)
  have Rtx_5 := Lib.hid (cells_of Rtx_4.out hb)
  clear hb hd
  have fz0 := row_c (i := 0) Rz_5.out rfl
  have zz0 := frozen_of_row _ _ 0 _ _ Rz_5.out
  have fz1 := row_c (i := 1) Rz_5.out rfl
  have zz1 := frozen_of_row _ _ 1 _ _ Rz_5.out
  have fz2 := row_c (i := 2) Rz_5.out rfl
  have zz2 := frozen_of_row _ _ 2 _ _ Rz_5.out
  have xz := heap_lt Rz_5.out
  go_wp2_with fail
  obtain ⟨w6, hW⟩ : ∃ W : World, W = (w5.alloc (.cells #[.bool (decide (my < 0)), .slice A5 (digs my.natAbs).length c5, .int .i64 yy] 26)) := ⟨_, rfl⟩
  rw [← hW]
  have hb : Below w5.heap.size w5 w6 := by rw [hW]; exact ((Below.refl _ _).alloc (by simp <;> omega) _)
  have L6 := Lib.hid (L5.out.step hb)
  have Rx_6 := Lib.hid (cells_of Rx_5.out hb)
  have Ry_6 := Lib.hid (cells_of Ry_5.out hb)
  have Rz_6 := Lib.hid (cells_of Rz_5.out hb)
  have Rtx_6 := Lib.hid (cells_of Rtx_5.out hb)
  have Rty_6 := Lib.hid (show w6.heap[w5.heap.size]? = some (.cells #[.bool (decide (my < 0)), .slice A5 (digs my.natAbs).length c5, .int .i64 yy] 26 (0, 0)) by rw [hW]; have := heap_alloc_new w5 (.cells #[.bool (decide (my < 0)), .slice A5 (digs my.natAbs).length c5, .int .i64 yy] 26); simpa using this)
  have Gty : w.heap.size ≤ w5.heap.size := by have := L5.out.1.size; omega
  have Nxty : w.heap.size < w5.heap.size := by have := heap_lt Rx_5.out; omega
  have Nyty : w.heap.size + 1 < w5.heap.size := by have := heap_lt Ry_5.out; omega
  have Nzty : w.heap.size + 1 + 1 < w5.heap.size := by have := heap_lt Rz_5.out; omega
  have Ntxty : w3.heap.size < w5.heap.size := by have := heap_lt Rtx_5.out; omega
  clear hW hb
  clear fz0 zz0 fz1 zz1 fz2 zz2 xz
  refine (tame_any (M := mz) (E := yz) (L6.out.get (A := Az) (c := cz) (xs := xsz) (by simp)) (t32_live HT.out L6.out) LXz.out E0z.out E1z.out HMz.out HYz.out).mono ?_
  rintro e w7 ⟨A7, c7, rfl, hd, hb⟩
  have L7 := Lib.hid ((L6.out.step hb).add hd)
  have Rx_7 := Lib.hid (cells_of Rx_6.out hb)
  have Ry_7 := Lib.hid (cells_of Ry_6.out hb)
  have Rz_7 := Lib.hid (cells_of Rz_6.out hb)
  have Rtx_7 := Lib.hid (cells_of Rtx_6.out hb)
  have Rty_7 := Lib.hid (cells_of Rty_6.out hb)
  clear hb hd
  have ftx0 := row_c (i := 0) Rtx_7.out rfl
  have ztx0 := frozen_of_row _ _ 0 _ _ Rtx_7.out
  have ftx1 := row_c (i := 1) Rtx_7.out rfl
  have ztx1 := frozen_of_row _ _ 1 _ _ Rtx_7.out
  have ftx2 := row_c (i := 2) Rtx_7.out rfl
  have ztx2 := frozen_of_row _ _ 2 _ _ Rtx_7.out
  have xtx := heap_lt Rtx_7.out
  have fty0 := row_c (i := 0) Rty_7.out rfl
  have zty0 := frozen_of_row _ _ 0 _ _ Rty_7.out
  have fty1 := row_c (i := 1) Rty_7.out rfl
  have zty1 := frozen_of_row _ _ 1 _ _ Rty_7.out
  have fty2 := row_c (i := 2) Rty_7.out rfl
  have zty2 := frozen_of_row _ _ 2 _ _ Rty_7.out
  have xty := heap_lt Rty_7.out
  go_wp2_with fail
  obtain ⟨w8, hW⟩ : ∃ W : World, W = (w7.alloc (.cells #[.bool (decide (mz < 0)), .slice A7 (digs mz.natAbs).length c7, .int .i64 yz] 26)) := ⟨_, rfl⟩
  rw [← hW]
  have hb : Below w7.heap.size w7 w8 := by rw [hW]; exact ((Below.refl _ _).alloc (by simp <;> omega) _)
  have L8 := Lib.hid (L7.out.step hb)
  have Rx_8 := Lib.hid (cells_of Rx_7.out hb)
  have Ry_8 := Lib.hid (cells_of Ry_7.out hb)
  have Rz_8 := Lib.hid (cells_of Rz_7.out hb)
  have Rtx_8 := Lib.hid (cells_of Rtx_7.out hb)
  have Rty_8 := Lib.hid (cells_of Rty_7.out hb)
  have Rtz_8 := Lib.hid (show w8.heap[w7.heap.size]? = some (.cells #[.bool (decide (mz < 0)), .slice A7 (digs mz.natAbs).length c7, .int .i64 yz] 26 (0, 0)) by rw [hW]; have := heap_alloc_new w7 (.cells #[.bool (decide (mz < 0)), .slice A7 (digs mz.natAbs).length c7, .int .i64 yz] 26); simpa using this)
  have Gtz : w.heap.size ≤ w7.heap.size := by have := L7.out.1.size; omega
  have Nxtz : w.heap.size < w7.heap.size := by have := heap_lt Rx_7.out; omega
  have Nytz : w.heap.size + 1 < w7.heap.size := by have := heap_lt Ry_7.out; omega
  have Nztz : w.heap.size + 1 + 1 < w7.heap.size := by have := heap_lt Rz_7.out; omega
  have Ntxtz : w3.heap.size < w7.heap.size := by have := heap_lt Rtx_7.out; omega
  have Ntytz : w5.heap.size < w7.heap.size := by have := heap_lt Rty_7.out; omega
  clear hW hb
  clear ftx0 ztx0 ftx1 ztx1 ftx2 ztx2 xtx fty0 zty0 fty1 zty1 fty2 zty2 xty
  refine (dcmp_any (m := mx) (n := my) (x := yx) (y := yy) (q := j) (L8.out.get (A := A3) (c := c3) (xs := digs mx.natAbs) (by simp)) (L8.out.get (A := A5) (c := c5) (xs := digs my.natAbs) (by simp)) (Nat.le_trans Dx.out (by omega)) (Nat.le_trans Dy.out (by omega)) Rx.out Ry.out HJ.out).mono ?_
  rintro e w9 ⟨rfl, hb⟩
  have L9 := Lib.hid (L8.out.step hb)
  have Rx_9 := Lib.hid (cells_of Rx_8.out hb)
  have Ry_9 := Lib.hid (cells_of Ry_8.out hb)
  have Rz_9 := Lib.hid (cells_of Rz_8.out hb)
  have Rtx_9 := Lib.hid (cells_of Rtx_8.out hb)
  have Rty_9 := Lib.hid (cells_of Rty_8.out hb)
  have Rtz_9 := Lib.hid (cells_of Rtz_8.out hb)
  clear hb 
  have ftx0 := row_c (i := 0) Rtx_9.out rfl
  have ztx0 := frozen_of_row _ _ 0 _ _ Rtx_9.out
  have ftx1 := row_c (i := 1) Rtx_9.out rfl
  have ztx1 := frozen_of_row _ _ 1 _ _ Rtx_9.out
  have ftx2 := row_c (i := 2) Rtx_9.out rfl
  have ztx2 := frozen_of_row _ _ 2 _ _ Rtx_9.out
  have xtx := heap_lt Rtx_9.out
  have fty0 := row_c (i := 0) Rty_9.out rfl
  have zty0 := frozen_of_row _ _ 0 _ _ Rty_9.out
  have fty1 := row_c (i := 1) Rty_9.out rfl
  have zty1 := frozen_of_row _ _ 1 _ _ Rty_9.out
  have fty2 := row_c (i := 2) Rty_9.out rfl
  have zty2 := frozen_of_row _ _ 2 _ _ Rty_9.out
  have xty := heap_lt Rty_9.out
  go_wp2_with fail
  refine (dsub_yes (m := mx) (x := yx) (n := my) (y := yy) (M := Md) (E := Ed) (L9.out.get (A := A3) (c := c3) (xs := digs mx.natAbs) (by simp)) (L9.out.get (A := A5) (c := c5) (xs := digs my.natAbs) (by simp)) Dx.out Dy.out Rx.out Ry.out (t32_live HT.out L9.out) HI.out Id.out).mono ?_
  rintro e w10 ⟨A10, c10, rfl, hd, hb⟩
  have L10 := Lib.hid ((L9.out.step hb).add hd)
  clear ftx0 ztx0 ftx1 ztx1 ftx2 ztx2 xtx fty0 zty0 fty1 zty1 fty2 zty2 xty
  have Rx_10 := Lib.hid (cells_of Rx_9.out hb)
  have Ry_10 := Lib.hid (cells_of Ry_9.out hb)
  have Rz_10 := Lib.hid (cells_of Rz_9.out hb)
  have Rtx_10 := Lib.hid (cells_of Rtx_9.out hb)
  have Rty_10 := Lib.hid (cells_of Rty_9.out hb)
  have Rtz_10 := Lib.hid (cells_of Rtz_9.out hb)
  clear hb hd
  go_wp2_with fail
  obtain ⟨w11, hW⟩ : ∃ W : World, W = (w10.alloc (.cells #[.bool (decide (Md < 0)), .slice A10 (digs Md.natAbs).length c10, .int .i64 Ed] 26)) := ⟨_, rfl⟩
  rw [← hW]
  have hb : Below w10.heap.size w10 w11 := by rw [hW]; exact ((Below.refl _ _).alloc (by simp <;> omega) _)
  have L11 := Lib.hid (L10.out.step hb)
  have Rx_11 := Lib.hid (cells_of Rx_10.out hb)
  have Ry_11 := Lib.hid (cells_of Ry_10.out hb)
  have Rz_11 := Lib.hid (cells_of Rz_10.out hb)
  have Rtx_11 := Lib.hid (cells_of Rtx_10.out hb)
  have Rty_11 := Lib.hid (cells_of Rty_10.out hb)
  have Rtz_11 := Lib.hid (cells_of Rtz_10.out hb)
  have Rbd_11 := Lib.hid (show w11.heap[w10.heap.size]? = some (.cells #[.bool (decide (Md < 0)), .slice A10 (digs Md.natAbs).length c10, .int .i64 Ed] 26 (0, 0)) by rw [hW]; have := heap_alloc_new w10 (.cells #[.bool (decide (Md < 0)), .slice A10 (digs Md.natAbs).length c10, .int .i64 Ed] 26); simpa using this)
  have Gbd : w.heap.size ≤ w10.heap.size := by have := L10.out.1.size; omega
  have Nxbd : w.heap.size < w10.heap.size := by have := heap_lt Rx_10.out; omega
  have Nybd : w.heap.size + 1 < w10.heap.size := by have := heap_lt Ry_10.out; omega
  have Nzbd : w.heap.size + 1 + 1 < w10.heap.size := by have := heap_lt Rz_10.out; omega
  have Ntxbd : w3.heap.size < w10.heap.size := by have := heap_lt Rtx_10.out; omega
  have Ntybd : w5.heap.size < w10.heap.size := by have := heap_lt Rty_10.out; omega
  have Ntzbd : w7.heap.size < w10.heap.size := by have := heap_lt Rtz_10.out; omega
  clear hW hb
  clear HMx HYx LXx E0x E1x Ix HMy HYy LXy E0y E1y Iy HMz HYz LXz E0z E1z Iz HJ HI Id Gx Gy Nxy Gz Nxz Nyz Gtx Nxtx Nytx Nztx Gty Nxty Nyty Nzty Ntxty Gtz Nxtz Nytz Nztz Ntxtz Ntytz Gbd Nxbd Nybd Nzbd Ntxbd Ntybd Ntzbd Rx_11 Ry_11 Rz_11 L0 L1 L2 L3 L4 L5 L6 L7 L8 L9 L10 Rx_1 Ry_1 Rz_1 Rx_2 Ry_2 Rz_2 Rx_3 Ry_3 Rz_3 Rx_4 Ry_4 Rz_4 Rtx_4 Rx_5 Ry_5 Rz_5 Rtx_5 Rx_6 Ry_6 Rz_6 Rtx_6 Rty_6 Rx_7 Ry_7 Rz_7 Rtx_7 Rty_7 Rx_8 Ry_8 Rz_8 Rtx_8 Rty_8 Rtz_8 Rx_9 Ry_9 Rz_9 Rtx_9 Rty_9 Rtz_9 Rx_10 Ry_10 Rz_10 Rtx_10 Rty_10 Rtz_10
  refine wp_operands (W := w11) rfl 54 [32, 33, 34, 35, 36, 37, 38, 39, 40, 41, 42, 43, 44, 45, 46, 47, 48, 49, 50, 51, 52, 53, 54, 55, 56, 57, 58, 59, 60, 61, 62, 63, 64, 65, 66, 67, 68, 69, 70, 71, 72, 73, 74, 75, 76, 77, 78, 79, 80, 81, 82, 83, 84, 85] (fun i u ww => match i with | 0 => u = .bool true | 1 => u = .bool true | 2 => u = .int .i64 0 | 3 => u = .bool true | 4 => u = .bool true | 5 => u = .bool true | 6 => u = .agg #[.bool (decide (Md < 0)), .slice A10 (digs Md.natAbs).length c10, .int .i64 Ed] | 7 => u = .agg #[.bool false, .slice none 0 0, .int .i64 0] | 8 => u = .int .i64 j | 9 => u = .int .i64 j | 10 => u = .bool true | 11 => u = .bool true | 12 => u = .bool true | 13 => u = .agg #[.bool (decide (my < 0)), .slice A5 (digs my.natAbs).length c5, .int .i64 yy] | 14 => u = .agg #[.bool (decide (mx < 0)), .slice A3 (digs mx.natAbs).length c3, .int .i64 yx] | 15 => u = .int .i64 (-j) | 16 => u = .int .i64 j | 17 => u = .int .i64 (-j) | 18 => u = .bool true | 19 => u = .bool true | 20 => u = .bool true | 21 => u = .agg #[.bool (decide (mx < 0)), .slice A3 (digs mx.natAbs).length c3, .int .i64 yx] | 22 => ∃ A c, u = .agg #[.bool (decide (nx_ < 0)), .slice A (digs nx_.natAbs).length c, .int .i64 yx] ∧ Dg ww A c (digs nx_.natAbs) | 23 => u = .agg #[.bool (decide (my < 0)), .slice A5 (digs my.natAbs).length c5, .int .i64 yy] | 24 => ∃ A c, u = .agg #[.bool (decide (ny_ < 0)), .slice A (digs ny_.natAbs).length c, .int .i64 yy] ∧ Dg ww A c (digs ny_.natAbs) | 25 => u = .int .i64 (-j) | 26 => u = .int .i64 j | 27 => u = .int .i64 (-j) | 28 => u = .bool true | 29 => u = .bool true | 30 => u = .bool true | 31 => u = .int .i64 j | 32 => u = .bool false | 33 => u = .bool false | 34 => u = .agg #[.bool (decide (my < 0)), .slice A5 (digs my.natAbs).length c5, .int .i64 yy] | 35 => u = .agg #[.bool (decide (mz < 0)), .slice A7 (digs mz.natAbs).length c7, .int .i64 yz] | 36 => u = .int .i64 j2 | 37 => u = .bool false | 38 => u = .bool false | 39 => u = .bool false | 40 => u = .agg #[.bool (decide (mx < 0)), .slice A3 (digs mx.natAbs).length c3, .int .i64 yx] | 41 => u = .agg #[.bool (decide (mz < 0)), .slice A7 (digs mz.natAbs).length c7, .int .i64 yz] | 42 => u = .int .i64 j3 | 43 => u = .bool true | 44 => u = .bool true | 45 => u = .bool true | 46 => u = .bool true | 47 => u = .int .i64 j | 48 => u = .bool q | 49 => u = .agg #[.bool (decide (mx < 0)), .slice A3 (digs mx.natAbs).length c3, .int .i64 yx] | 50 => u = .agg #[.bool (decide (my < 0)), .slice A5 (digs my.natAbs).length c5, .int .i64 yy] | 51 => u = .bool q | 52 => u = .bool true | 53 => u = .bool true | _ => True) (fun _ => false)
    (by decide) (by kernel_rfl) (by kernel_rfl) (by kernel_rfl) (by decide) (by kernel_rfl) ?_ (fun _ _ _ h => by cases h) ?_ ?_
  · intro i u y y2 hi h hb
    have hi' : i = 0 ∨ i = 1 ∨ i = 2 ∨ i = 3 ∨ i = 4 ∨ i = 5 ∨ i = 6 ∨ i = 7 ∨ i = 8 ∨ i = 9 ∨ i = 10 ∨ i = 11 ∨ i = 12 ∨ i = 13 ∨ i = 14 ∨ i = 15 ∨ i = 16 ∨ i = 17 ∨ i = 18 ∨ i = 19 ∨ i = 20 ∨ i = 21 ∨ i = 22 ∨ i = 23 ∨ i = 24 ∨ i = 25 ∨ i = 26 ∨ i = 27 ∨ i = 28 ∨ i = 29 ∨ i = 30 ∨ i = 31 ∨ i = 32 ∨ i = 33 ∨ i = 34 ∨ i = 35 ∨ i = 36 ∨ i = 37 ∨ i = 38 ∨ i = 39 ∨ i = 40 ∨ i = 41 ∨ i = 42 ∨ i = 43 ∨ i = 44 ∨ i = 45 ∨ i = 46 ∨ i = 47 ∨ i = 48 ∨ i = 49 ∨ i = 50 ∨ i = 51 ∨ i = 52 ∨ i = 53 := by omega
    rcases hi' with rfl | rfl | rfl | rfl | rfl | rfl | rfl | rfl | rfl | rfl | rfl | rfl | rfl | rfl | rfl | rfl | rfl | rfl | rfl | rfl | rfl | rfl | rfl | rfl | rfl | rfl | rfl | rfl | rfl | rfl | rfl | rfl | rfl | rfl | rfl | rfl | rfl | rfl | rfl | rfl | rfl | rfl | rfl | rfl | rfl | rfl | rfl | rfl | rfl | rfl | rfl | rfl | rfl | rfl
    · exact h
    · exact h
    · exact h
    · exact h
    · exact h
    · exact h
    · exact h
    · exact h
    · exact h
    · exact h
    · exact h
    · exact h
    · exact h
    · exact h
    · exact h
    · exact h
    · exact h
    · exact h
    · exact h
    · exact h
    · exact h
    · exact h
    · obtain ⟨A, c, e, hd⟩ := h
      exact ⟨A, c, e, hd.below hb⟩
    · exact h
    · obtain ⟨A, c, e, hd⟩ := h
      exact ⟨A, c, e, hd.below hb⟩
    · exact h
    · exact h
    · exact h
    · exact h
    · exact h
    · exact h
    · exact h
    · exact h
    · exact h
    · exact h
    · exact h
    · exact h
    · exact h
    · exact h
    · exact h
    · exact h
    · exact h
    · exact h
    · exact h
    · exact h
    · exact h
    · exact h
    · exact h
    · exact h
    · exact h
    · exact h
    · exact h
    · exact h
    · exact h
  · intro i a x K hi hF hb hw hK
    have hi' : i = 0 ∨ i = 1 ∨ i = 2 ∨ i = 3 ∨ i = 4 ∨ i = 5 ∨ i = 6 ∨ i = 7 ∨ i = 8 ∨ i = 9 ∨ i = 10 ∨ i = 11 ∨ i = 12 ∨ i = 13 ∨ i = 14 ∨ i = 15 ∨ i = 16 ∨ i = 17 ∨ i = 18 ∨ i = 19 ∨ i = 20 ∨ i = 21 ∨ i = 22 ∨ i = 23 ∨ i = 24 ∨ i = 25 ∨ i = 26 ∨ i = 27 ∨ i = 28 ∨ i = 29 ∨ i = 30 ∨ i = 31 ∨ i = 32 ∨ i = 33 ∨ i = 34 ∨ i = 35 ∨ i = 36 ∨ i = 37 ∨ i = 38 ∨ i = 39 ∨ i = 40 ∨ i = 41 ∨ i = 42 ∨ i = 43 ∨ i = 44 ∨ i = 45 ∨ i = 46 ∨ i = 47 ∨ i = 48 ∨ i = 49 ∨ i = 50 ∨ i = 51 ∨ i = 52 ∨ i = 53 := by omega
    rcases hi' with rfl | rfl | rfl | rfl | rfl | rfl | rfl | rfl | rfl | rfl | rfl | rfl | rfl | rfl | rfl | rfl | rfl | rfl | rfl | rfl | rfl | rfl | rfl | rfl | rfl | rfl | rfl | rfl | rfl | rfl | rfl | rfl | rfl | rfl | rfl | rfl | rfl | rfl | rfl | rfl | rfl | rfl | rfl | rfl | rfl | rfl | rfl | rfl | rfl | rfl | rfl | rfl | rfl | rfl
    · simp only [wpOp, List.getElem?_toArray, List.getElem?_cons_zero, Region.wanted, if_true]
      refine Or.inl ?_
      have e0 : a.eval (.tmp 7) = .bool true := hF.2.2 7 (by decide)
      clear hw hF
      simp only [Oper.wp, execOp]
      rw [e0]
      go_simp
      exact hK _ x (by first | rfl | simp) (Below.refl _ _) (fun h => by cases h)
    · simp only [wpOp, List.getElem?_toArray, List.getElem?_cons_succ, List.getElem?_cons_zero, Region.wanted, if_true]
      refine Or.inl ?_
      have e0 : a.tmps.getD 32 undef = .bool true := hw 0 (by kernel_rfl)
      clear hw hF
      simp only [Oper.wp, execOp]
      go_simp
      exact hK _ x (by first | rfl | simp) (Below.refl _ _) (fun h => by cases h)
    · simp only [wpOp, List.getElem?_toArray, List.getElem?_cons_succ, List.getElem?_cons_zero]
      have eg : a.tmps.getD 33 undef = .bool true := hw 1 (by kernel_rfl)
      refine ite_yes (wanted_yes rfl (yielded_of (t := 33) (by kernel_rfl) eg)) ?_
      clear eg
      refine Or.inl ?_
      have e0 : a.eval (.tmp 13) = .int .i64 0 := hF.2.2 13 (by decide)
      clear hw hF
      simp only [Oper.wp, execOp]
      rw [e0]
      go_simp
      exact hK _ x (by first | rfl | simp) (Below.refl _ _) (fun h => by cases h)
    · simp only [wpOp, List.getElem?_toArray, List.getElem?_cons_succ, List.getElem?_cons_zero]
      have eg : a.tmps.getD 33 undef = .bool true := hw 1 (by kernel_rfl)
      refine ite_yes (wanted_yes rfl (yielded_of (t := 33) (by kernel_rfl) eg)) ?_
      clear eg
      refine Or.inl ?_
      have e0 : a.tmps.getD 34 undef = .int .i64 0 := hw 2 (by kernel_rfl)
      clear hw hF
      have g1 := G1.out
      have hq := HQ.out
      have j0 := J0.out
      have j1 := J1.out
      have qq : (q == q) = true := by simp
      have jj : (j == j) = true := by simp
      have nn : (-j == -j) = true := by simp
      have hwr : IntKind.i64.wrap (-j) = -j := by rw [IntWalk.i64_in _ (by omega)]
      have g2 := G2.out
      have g3 := G3.out
      simp only [Oper.wp, execOp]
      go_simp
      exact hK _ x (by first | rfl | simp) (Below.refl _ _) (fun h => by cases h)
    · simp only [wpOp, List.getElem?_toArray, List.getElem?_cons_succ, List.getElem?_cons_zero, Region.wanted, if_true]
      refine Or.inl ?_
      have e0 : a.tmps.getD 33 undef = .bool true := hw 1 (by kernel_rfl)
      have e1 : a.tmps.getD 35 undef = .bool true := hw 3 (by kernel_rfl)
      clear hw hF
      have g1 := G1.out
      have hq := HQ.out
      have j0 := J0.out
      have j1 := J1.out
      have qq : (q == q) = true := by simp
      have jj : (j == j) = true := by simp
      have nn : (-j == -j) = true := by simp
      have hwr : IntKind.i64.wrap (-j) = -j := by rw [IntWalk.i64_in _ (by omega)]
      have g2 := G2.out
      have g3 := G3.out
      simp only [Oper.wp, execOp]
      go_simp
      exact hK _ x (by first | rfl | simp) (Below.refl _ _) (fun h => by cases h)
    · simp only [wpOp, List.getElem?_toArray, List.getElem?_cons_succ, List.getElem?_cons_zero, Region.wanted, if_true]
      refine Or.inl ?_
      have e0 : a.tmps.getD 36 undef = .bool true := hw 4 (by kernel_rfl)
      clear hw hF
      simp only [Oper.wp, execOp]
      go_simp
      exact hK _ x (by first | rfl | simp) (Below.refl _ _) (fun h => by cases h)
    · simp only [wpOp, List.getElem?_toArray, List.getElem?_cons_succ, List.getElem?_cons_zero]
      have eg : a.tmps.getD 37 undef = .bool true := hw 5 (by kernel_rfl)
      refine ite_yes (wanted_yes rfl (yielded_of (t := 37) (by kernel_rfl) eg)) ?_
      clear eg
      refine Or.inl ?_
      have e0 : a.eval (.tmp 12) = .pointer (some ⟨w10.heap.size, 0, none⟩) := hF.2.2 12 (by decide)
      have f0 := row_cell Rbd_11.out hb 0
      have f1 := row_cell Rbd_11.out hb 1
      have f2 := row_cell Rbd_11.out hb 2
      simp only [List.getElem?_toArray, List.getElem?_cons_succ, List.getElem?_cons_zero] at f0 f1 f2
      clear hw hF
      simp only [Oper.wp, execOp]
      rw [e0]
      go_simp
      exact hK _ x (by first | rfl | simp) (Below.refl _ _) (fun h => by cases h)
    · simp only [wpOp, List.getElem?_toArray, List.getElem?_cons_succ, List.getElem?_cons_zero]
      have eg : a.tmps.getD 37 undef = .bool true := hw 5 (by kernel_rfl)
      refine ite_yes (wanted_yes rfl (yielded_of (t := 37) (by kernel_rfl) eg)) ?_
      clear eg
      refine Or.inl ?_
      clear hw hF
      simp only [Oper.wp, execOp]
      go_simp
      exact hK _ x (by first | rfl | simp) (Below.refl _ _) (fun h => by cases h)
    · simp only [wpOp, List.getElem?_toArray, List.getElem?_cons_succ, List.getElem?_cons_zero]
      have eg : a.tmps.getD 37 undef = .bool true := hw 5 (by kernel_rfl)
      refine ite_yes (wanted_yes rfl (yielded_of (t := 37) (by kernel_rfl) eg)) ?_
      clear eg
      refine Or.inl ?_
      have e0 : a.tmps.getD 38 undef = .agg #[.bool (decide (Md < 0)), .slice A10 (digs Md.natAbs).length c10, .int .i64 Ed] := hw 6 (by kernel_rfl)
      have e1 : a.tmps.getD 39 undef = .agg #[.bool false, .slice none 0 0, .int .i64 0] := hw 7 (by kernel_rfl)
      clear hw hF
      simp only [Oper.wp, execOp]
      go_simp
      refine (dcmp0 ((L11.out.step hb).get (A := A10) (c := c10) (xs := digs Md.natAbs) (by simp)) (Nat.le_trans Dd.out (by omega)) Rd.out C0.out).mono ?_
      rintro e y ⟨rfl, hbb⟩
      exact hK _ y rfl hbb (fun h => by cases h)
    · simp only [wpOp, List.getElem?_toArray, List.getElem?_cons_succ, List.getElem?_cons_zero]
      have eg : a.tmps.getD 37 undef = .bool true := hw 5 (by kernel_rfl)
      refine ite_yes (wanted_yes rfl (yielded_of (t := 37) (by kernel_rfl) eg)) ?_
      clear eg
      refine Or.inl ?_
      have e0 : a.eval (.tmp 11) = .int .i64 j := hF.2.2 11 (by decide)
      clear hw hF
      simp only [Oper.wp, execOp]
      rw [e0]
      go_simp
      exact hK _ x (by first | rfl | simp) (Below.refl _ _) (fun h => by cases h)
    · simp only [wpOp, List.getElem?_toArray, List.getElem?_cons_succ, List.getElem?_cons_zero]
      have eg : a.tmps.getD 37 undef = .bool true := hw 5 (by kernel_rfl)
      refine ite_yes (wanted_yes rfl (yielded_of (t := 37) (by kernel_rfl) eg)) ?_
      clear eg
      refine Or.inl ?_
      have e0 : a.tmps.getD 40 undef = .int .i64 j := hw 8 (by kernel_rfl)
      have e1 : a.tmps.getD 41 undef = .int .i64 j := hw 9 (by kernel_rfl)
      clear hw hF
      have g1 := G1.out
      have hq := HQ.out
      have j0 := J0.out
      have j1 := J1.out
      have qq : (q == q) = true := by simp
      have jj : (j == j) = true := by simp
      have nn : (-j == -j) = true := by simp
      have hwr : IntKind.i64.wrap (-j) = -j := by rw [IntWalk.i64_in _ (by omega)]
      have g2 := G2.out
      have g3 := G3.out
      simp only [Oper.wp, execOp]
      go_simp
      exact hK _ x (by first | rfl | simp) (Below.refl _ _) (fun h => by cases h)
    · simp only [wpOp, List.getElem?_toArray, List.getElem?_cons_succ, List.getElem?_cons_zero, Region.wanted, if_true]
      refine Or.inl ?_
      have e0 : a.tmps.getD 37 undef = .bool true := hw 5 (by kernel_rfl)
      have e1 : a.tmps.getD 42 undef = .bool true := hw 10 (by kernel_rfl)
      clear hw hF
      have g1 := G1.out
      have hq := HQ.out
      have j0 := J0.out
      have j1 := J1.out
      have qq : (q == q) = true := by simp
      have jj : (j == j) = true := by simp
      have nn : (-j == -j) = true := by simp
      have hwr : IntKind.i64.wrap (-j) = -j := by rw [IntWalk.i64_in _ (by omega)]
      have g2 := G2.out
      have g3 := G3.out
      simp only [Oper.wp, execOp]
      go_simp
      exact hK _ x (by first | rfl | simp) (Below.refl _ _) (fun h => by cases h)
    · simp only [wpOp, List.getElem?_toArray, List.getElem?_cons_succ, List.getElem?_cons_zero, Region.wanted, if_true]
      refine Or.inl ?_
      have e0 : a.tmps.getD 43 undef = .bool true := hw 11 (by kernel_rfl)
      clear hw hF
      simp only [Oper.wp, execOp]
      go_simp
      exact hK _ x (by first | rfl | simp) (Below.refl _ _) (fun h => by cases h)
    · simp only [wpOp, List.getElem?_toArray, List.getElem?_cons_succ, List.getElem?_cons_zero]
      have eg : a.tmps.getD 44 undef = .bool true := hw 12 (by kernel_rfl)
      refine ite_yes (wanted_yes rfl (yielded_of (t := 44) (by kernel_rfl) eg)) ?_
      clear eg
      refine Or.inl ?_
      have e0 : a.eval (.tmp 9) = .pointer (some ⟨w5.heap.size, 0, none⟩) := hF.2.2 9 (by decide)
      have f0 := row_cell Rty_11.out hb 0
      have f1 := row_cell Rty_11.out hb 1
      have f2 := row_cell Rty_11.out hb 2
      simp only [List.getElem?_toArray, List.getElem?_cons_succ, List.getElem?_cons_zero] at f0 f1 f2
      clear hw hF
      simp only [Oper.wp, execOp]
      rw [e0]
      go_simp
      exact hK _ x (by first | rfl | simp) (Below.refl _ _) (fun h => by cases h)
    · simp only [wpOp, List.getElem?_toArray, List.getElem?_cons_succ, List.getElem?_cons_zero]
      have eg : a.tmps.getD 44 undef = .bool true := hw 12 (by kernel_rfl)
      refine ite_yes (wanted_yes rfl (yielded_of (t := 44) (by kernel_rfl) eg)) ?_
      clear eg
      refine Or.inl ?_
      have e0 : a.eval (.tmp 8) = .pointer (some ⟨w3.heap.size, 0, none⟩) := hF.2.2 8 (by decide)
      have f0 := row_cell Rtx_11.out hb 0
      have f1 := row_cell Rtx_11.out hb 1
      have f2 := row_cell Rtx_11.out hb 2
      simp only [List.getElem?_toArray, List.getElem?_cons_succ, List.getElem?_cons_zero] at f0 f1 f2
      clear hw hF
      simp only [Oper.wp, execOp]
      rw [e0]
      go_simp
      exact hK _ x (by first | rfl | simp) (Below.refl _ _) (fun h => by cases h)
    · simp only [wpOp, List.getElem?_toArray, List.getElem?_cons_succ, List.getElem?_cons_zero]
      have eg : a.tmps.getD 44 undef = .bool true := hw 12 (by kernel_rfl)
      refine ite_yes (wanted_yes rfl (yielded_of (t := 44) (by kernel_rfl) eg)) ?_
      clear eg
      refine Or.inl ?_
      have e0 : a.tmps.getD 45 undef = .agg #[.bool (decide (my < 0)), .slice A5 (digs my.natAbs).length c5, .int .i64 yy] := hw 13 (by kernel_rfl)
      have e1 : a.tmps.getD 46 undef = .agg #[.bool (decide (mx < 0)), .slice A3 (digs mx.natAbs).length c3, .int .i64 yx] := hw 14 (by kernel_rfl)
      clear hw hF
      simp only [Oper.wp, execOp]
      go_simp
      refine (dcmp_any (m := my) (n := mx) (x := yy) (y := yx) (q := -j) ((L11.out.step hb).get (A := A5) (c := c5) (xs := digs my.natAbs) (by simp)) ((L11.out.step hb).get (A := A3) (c := c3) (xs := digs mx.natAbs) (by simp)) (Nat.le_trans Dy.out (by omega)) (Nat.le_trans Dx.out (by omega)) Ry.out Rx.out C1.out).mono ?_
      rintro e y ⟨rfl, hbb⟩
      exact hK _ y rfl hbb (fun h => by cases h)
    · simp only [wpOp, List.getElem?_toArray, List.getElem?_cons_succ, List.getElem?_cons_zero]
      have eg : a.tmps.getD 44 undef = .bool true := hw 12 (by kernel_rfl)
      refine ite_yes (wanted_yes rfl (yielded_of (t := 44) (by kernel_rfl) eg)) ?_
      clear eg
      refine Or.inl ?_
      have e0 : a.eval (.tmp 11) = .int .i64 j := hF.2.2 11 (by decide)
      clear hw hF
      simp only [Oper.wp, execOp]
      rw [e0]
      go_simp
      exact hK _ x (by first | rfl | simp) (Below.refl _ _) (fun h => by cases h)
    · simp only [wpOp, List.getElem?_toArray, List.getElem?_cons_succ, List.getElem?_cons_zero]
      have eg : a.tmps.getD 44 undef = .bool true := hw 12 (by kernel_rfl)
      refine ite_yes (wanted_yes rfl (yielded_of (t := 44) (by kernel_rfl) eg)) ?_
      clear eg
      refine Or.inl ?_
      have e0 : a.tmps.getD 48 undef = .int .i64 j := hw 16 (by kernel_rfl)
      clear hw hF
      have g1 := G1.out
      have hq := HQ.out
      have j0 := J0.out
      have j1 := J1.out
      have qq : (q == q) = true := by simp
      have jj : (j == j) = true := by simp
      have nn : (-j == -j) = true := by simp
      have hwr : IntKind.i64.wrap (-j) = -j := by rw [IntWalk.i64_in _ (by omega)]
      have g2 := G2.out
      have g3 := G3.out
      simp only [Oper.wp, execOp]
      go_simp
      exact hK _ x (by first | rfl | simp) (Below.refl _ _) (fun h => by cases h)
    · simp only [wpOp, List.getElem?_toArray, List.getElem?_cons_succ, List.getElem?_cons_zero]
      have eg : a.tmps.getD 44 undef = .bool true := hw 12 (by kernel_rfl)
      refine ite_yes (wanted_yes rfl (yielded_of (t := 44) (by kernel_rfl) eg)) ?_
      clear eg
      refine Or.inl ?_
      have e0 : a.tmps.getD 47 undef = .int .i64 (-j) := hw 15 (by kernel_rfl)
      have e1 : a.tmps.getD 49 undef = .int .i64 (-j) := hw 17 (by kernel_rfl)
      clear hw hF
      have g1 := G1.out
      have hq := HQ.out
      have j0 := J0.out
      have j1 := J1.out
      have qq : (q == q) = true := by simp
      have jj : (j == j) = true := by simp
      have nn : (-j == -j) = true := by simp
      have hwr : IntKind.i64.wrap (-j) = -j := by rw [IntWalk.i64_in _ (by omega)]
      have g2 := G2.out
      have g3 := G3.out
      simp only [Oper.wp, execOp]
      go_simp
      exact hK _ x (by first | rfl | simp) (Below.refl _ _) (fun h => by cases h)
    · simp only [wpOp, List.getElem?_toArray, List.getElem?_cons_succ, List.getElem?_cons_zero, Region.wanted, if_true]
      refine Or.inl ?_
      have e0 : a.tmps.getD 44 undef = .bool true := hw 12 (by kernel_rfl)
      have e1 : a.tmps.getD 50 undef = .bool true := hw 18 (by kernel_rfl)
      clear hw hF
      have g1 := G1.out
      have hq := HQ.out
      have j0 := J0.out
      have j1 := J1.out
      have qq : (q == q) = true := by simp
      have jj : (j == j) = true := by simp
      have nn : (-j == -j) = true := by simp
      have hwr : IntKind.i64.wrap (-j) = -j := by rw [IntWalk.i64_in _ (by omega)]
      have g2 := G2.out
      have g3 := G3.out
      simp only [Oper.wp, execOp]
      go_simp
      exact hK _ x (by first | rfl | simp) (Below.refl _ _) (fun h => by cases h)
    · simp only [wpOp, List.getElem?_toArray, List.getElem?_cons_succ, List.getElem?_cons_zero, Region.wanted, if_true]
      refine Or.inl ?_
      have e0 : a.tmps.getD 51 undef = .bool true := hw 19 (by kernel_rfl)
      clear hw hF
      simp only [Oper.wp, execOp]
      go_simp
      exact hK _ x (by first | rfl | simp) (Below.refl _ _) (fun h => by cases h)
    · simp only [wpOp, List.getElem?_toArray, List.getElem?_cons_succ, List.getElem?_cons_zero]
      have eg : a.tmps.getD 52 undef = .bool true := hw 20 (by kernel_rfl)
      refine ite_yes (wanted_yes rfl (yielded_of (t := 52) (by kernel_rfl) eg)) ?_
      clear eg
      refine Or.inl ?_
      have e0 : a.eval (.tmp 8) = .pointer (some ⟨w3.heap.size, 0, none⟩) := hF.2.2 8 (by decide)
      have f0 := row_cell Rtx_11.out hb 0
      have f1 := row_cell Rtx_11.out hb 1
      have f2 := row_cell Rtx_11.out hb 2
      simp only [List.getElem?_toArray, List.getElem?_cons_succ, List.getElem?_cons_zero] at f0 f1 f2
      clear hw hF
      simp only [Oper.wp, execOp]
      rw [e0]
      go_simp
      exact hK _ x (by first | rfl | simp) (Below.refl _ _) (fun h => by cases h)
    · simp only [wpOp, List.getElem?_toArray, List.getElem?_cons_succ, List.getElem?_cons_zero]
      have eg : a.tmps.getD 52 undef = .bool true := hw 20 (by kernel_rfl)
      refine ite_yes (wanted_yes rfl (yielded_of (t := 52) (by kernel_rfl) eg)) ?_
      clear eg
      refine Or.inl ?_
      have e0 : a.tmps.getD 53 undef = .agg #[.bool (decide (mx < 0)), .slice A3 (digs mx.natAbs).length c3, .int .i64 yx] := hw 21 (by kernel_rfl)
      clear hw hF
      simp only [Oper.wp, execOp]
      go_simp
      refine (NX.out A3 c3 _ ((L11.out.step hb).get (A := A3) (c := c3) (xs := digs mx.natAbs) (by simp))).mono ?_
      rintro e y ⟨A', c', rfl, hd, hbb⟩
      exact hK _ y ⟨A', c', rfl, hd⟩ hbb (fun h => by cases h)
    · simp only [wpOp, List.getElem?_toArray, List.getElem?_cons_succ, List.getElem?_cons_zero]
      have eg : a.tmps.getD 52 undef = .bool true := hw 20 (by kernel_rfl)
      refine ite_yes (wanted_yes rfl (yielded_of (t := 52) (by kernel_rfl) eg)) ?_
      clear eg
      refine Or.inl ?_
      have e0 : a.eval (.tmp 9) = .pointer (some ⟨w5.heap.size, 0, none⟩) := hF.2.2 9 (by decide)
      have f0 := row_cell Rty_11.out hb 0
      have f1 := row_cell Rty_11.out hb 1
      have f2 := row_cell Rty_11.out hb 2
      simp only [List.getElem?_toArray, List.getElem?_cons_succ, List.getElem?_cons_zero] at f0 f1 f2
      clear hw hF
      simp only [Oper.wp, execOp]
      rw [e0]
      go_simp
      exact hK _ x (by first | rfl | simp) (Below.refl _ _) (fun h => by cases h)
    · simp only [wpOp, List.getElem?_toArray, List.getElem?_cons_succ, List.getElem?_cons_zero]
      have eg : a.tmps.getD 52 undef = .bool true := hw 20 (by kernel_rfl)
      refine ite_yes (wanted_yes rfl (yielded_of (t := 52) (by kernel_rfl) eg)) ?_
      clear eg
      refine Or.inl ?_
      have e0 : a.tmps.getD 55 undef = .agg #[.bool (decide (my < 0)), .slice A5 (digs my.natAbs).length c5, .int .i64 yy] := hw 23 (by kernel_rfl)
      clear hw hF
      simp only [Oper.wp, execOp]
      go_simp
      refine (NY.out A5 c5 _ ((L11.out.step hb).get (A := A5) (c := c5) (xs := digs my.natAbs) (by simp))).mono ?_
      rintro e y ⟨A', c', rfl, hd, hbb⟩
      exact hK _ y ⟨A', c', rfl, hd⟩ hbb (fun h => by cases h)
    · simp only [wpOp, List.getElem?_toArray, List.getElem?_cons_succ, List.getElem?_cons_zero]
      have eg : a.tmps.getD 52 undef = .bool true := hw 20 (by kernel_rfl)
      refine ite_yes (wanted_yes rfl (yielded_of (t := 52) (by kernel_rfl) eg)) ?_
      clear eg
      refine Or.inl ?_
      obtain ⟨A0_, c0_, e0, d0_⟩ := hw 22 (by kernel_rfl)
      have e0 : a.tmps.getD 54 undef = _ := e0
      obtain ⟨A1_, c1_, e1, d1_⟩ := hw 24 (by kernel_rfl)
      have e1 : a.tmps.getD 56 undef = _ := e1
      clear hw hF
      simp only [Oper.wp, execOp]
      go_simp
      refine (dcmp_any (m := nx_) (n := ny_) (x := yx) (y := yy) (q := -j) d0_ d1_ LNx.out LNy.out RNx.out RNy.out C2.out).mono ?_
      rintro e y ⟨rfl, hbb⟩
      exact hK _ y rfl hbb (fun h => by cases h)
    · simp only [wpOp, List.getElem?_toArray, List.getElem?_cons_succ, List.getElem?_cons_zero]
      have eg : a.tmps.getD 52 undef = .bool true := hw 20 (by kernel_rfl)
      refine ite_yes (wanted_yes rfl (yielded_of (t := 52) (by kernel_rfl) eg)) ?_
      clear eg
      refine Or.inl ?_
      have e0 : a.eval (.tmp 11) = .int .i64 j := hF.2.2 11 (by decide)
      clear hw hF
      simp only [Oper.wp, execOp]
      rw [e0]
      go_simp
      exact hK _ x (by first | rfl | simp) (Below.refl _ _) (fun h => by cases h)
    · simp only [wpOp, List.getElem?_toArray, List.getElem?_cons_succ, List.getElem?_cons_zero]
      have eg : a.tmps.getD 52 undef = .bool true := hw 20 (by kernel_rfl)
      refine ite_yes (wanted_yes rfl (yielded_of (t := 52) (by kernel_rfl) eg)) ?_
      clear eg
      refine Or.inl ?_
      have e0 : a.tmps.getD 58 undef = .int .i64 j := hw 26 (by kernel_rfl)
      clear hw hF
      have g1 := G1.out
      have hq := HQ.out
      have j0 := J0.out
      have j1 := J1.out
      have qq : (q == q) = true := by simp
      have jj : (j == j) = true := by simp
      have nn : (-j == -j) = true := by simp
      have hwr : IntKind.i64.wrap (-j) = -j := by rw [IntWalk.i64_in _ (by omega)]
      have g2 := G2.out
      have g3 := G3.out
      simp only [Oper.wp, execOp]
      go_simp
      exact hK _ x (by first | rfl | simp) (Below.refl _ _) (fun h => by cases h)
    · simp only [wpOp, List.getElem?_toArray, List.getElem?_cons_succ, List.getElem?_cons_zero]
      have eg : a.tmps.getD 52 undef = .bool true := hw 20 (by kernel_rfl)
      refine ite_yes (wanted_yes rfl (yielded_of (t := 52) (by kernel_rfl) eg)) ?_
      clear eg
      refine Or.inl ?_
      have e0 : a.tmps.getD 57 undef = .int .i64 (-j) := hw 25 (by kernel_rfl)
      have e1 : a.tmps.getD 59 undef = .int .i64 (-j) := hw 27 (by kernel_rfl)
      clear hw hF
      have g1 := G1.out
      have hq := HQ.out
      have j0 := J0.out
      have j1 := J1.out
      have qq : (q == q) = true := by simp
      have jj : (j == j) = true := by simp
      have nn : (-j == -j) = true := by simp
      have hwr : IntKind.i64.wrap (-j) = -j := by rw [IntWalk.i64_in _ (by omega)]
      have g2 := G2.out
      have g3 := G3.out
      simp only [Oper.wp, execOp]
      go_simp
      exact hK _ x (by first | rfl | simp) (Below.refl _ _) (fun h => by cases h)
    · simp only [wpOp, List.getElem?_toArray, List.getElem?_cons_succ, List.getElem?_cons_zero, Region.wanted, if_true]
      refine Or.inl ?_
      have e0 : a.tmps.getD 52 undef = .bool true := hw 20 (by kernel_rfl)
      have e1 : a.tmps.getD 60 undef = .bool true := hw 28 (by kernel_rfl)
      clear hw hF
      have g1 := G1.out
      have hq := HQ.out
      have j0 := J0.out
      have j1 := J1.out
      have qq : (q == q) = true := by simp
      have jj : (j == j) = true := by simp
      have nn : (-j == -j) = true := by simp
      have hwr : IntKind.i64.wrap (-j) = -j := by rw [IntWalk.i64_in _ (by omega)]
      have g2 := G2.out
      have g3 := G3.out
      simp only [Oper.wp, execOp]
      go_simp
      exact hK _ x (by first | rfl | simp) (Below.refl _ _) (fun h => by cases h)
    · simp only [wpOp, List.getElem?_toArray, List.getElem?_cons_succ, List.getElem?_cons_zero, Region.wanted, if_true]
      refine Or.inl ?_
      have e0 : a.tmps.getD 61 undef = .bool true := hw 29 (by kernel_rfl)
      clear hw hF
      simp only [Oper.wp, execOp]
      go_simp
      exact hK _ x (by first | rfl | simp) (Below.refl _ _) (fun h => by cases h)
    · simp only [wpOp, List.getElem?_toArray, List.getElem?_cons_succ, List.getElem?_cons_zero]
      have eg : a.tmps.getD 62 undef = .bool true := hw 30 (by kernel_rfl)
      refine ite_yes (wanted_yes rfl (yielded_of (t := 62) (by kernel_rfl) eg)) ?_
      clear eg
      refine Or.inl ?_
      have e0 : a.eval (.tmp 11) = .int .i64 j := hF.2.2 11 (by decide)
      clear hw hF
      simp only [Oper.wp, execOp]
      rw [e0]
      go_simp
      exact hK _ x (by first | rfl | simp) (Below.refl _ _) (fun h => by cases h)
    · simp only [wpOp, List.getElem?_toArray, List.getElem?_cons_succ, List.getElem?_cons_zero]
      have eg : a.tmps.getD 62 undef = .bool true := hw 30 (by kernel_rfl)
      refine ite_yes (wanted_yes rfl (yielded_of (t := 62) (by kernel_rfl) eg)) ?_
      clear eg
      refine Or.inl ?_
      have e0 : a.tmps.getD 63 undef = .int .i64 j := hw 31 (by kernel_rfl)
      clear hw hF
      have g1 := G1.out
      have hq := HQ.out
      have j0 := J0.out
      have j1 := J1.out
      have qq : (q == q) = true := by simp
      have jj : (j == j) = true := by simp
      have nn : (-j == -j) = true := by simp
      have hwr : IntKind.i64.wrap (-j) = -j := by rw [IntWalk.i64_in _ (by omega)]
      have g2 := G2.out
      have g3 := G3.out
      simp only [Oper.wp, execOp]
      go_simp
      exact hK _ x (by first | rfl | simp) (Below.refl _ _) (fun h => by cases h)
    · simp only [wpOp, List.getElem?_toArray, List.getElem?_cons_succ, List.getElem?_cons_zero]
      have eg : a.tmps.getD 62 undef = .bool true := hw 30 (by kernel_rfl)
      refine ite_yes (wanted_yes rfl (yielded_of (t := 62) (by kernel_rfl) eg)) ?_
      clear eg
      refine Or.inl ?_
      have e0 : a.tmps.getD 64 undef = .bool false := hw 32 (by kernel_rfl)
      clear hw hF
      simp only [Oper.wp, execOp]
      go_simp
      exact hK _ x (by first | rfl | simp) (Below.refl _ _) (fun h => by cases h)
    · simp only [wpOp, List.getElem?_toArray, List.getElem?_cons_succ, List.getElem?_cons_zero]
      have eg : a.tmps.getD 65 undef = .bool false := hw 33 (by kernel_rfl)
      refine ite_yes (wanted_yes rfl (yielded_of (t := 65) (by kernel_rfl) eg)) ?_
      clear eg
      refine Or.inl ?_
      have e0 : a.eval (.tmp 9) = .pointer (some ⟨w5.heap.size, 0, none⟩) := hF.2.2 9 (by decide)
      have f0 := row_cell Rty_11.out hb 0
      have f1 := row_cell Rty_11.out hb 1
      have f2 := row_cell Rty_11.out hb 2
      simp only [List.getElem?_toArray, List.getElem?_cons_succ, List.getElem?_cons_zero] at f0 f1 f2
      clear hw hF
      simp only [Oper.wp, execOp]
      rw [e0]
      go_simp
      exact hK _ x (by first | rfl | simp) (Below.refl _ _) (fun h => by cases h)
    · simp only [wpOp, List.getElem?_toArray, List.getElem?_cons_succ, List.getElem?_cons_zero]
      have eg : a.tmps.getD 65 undef = .bool false := hw 33 (by kernel_rfl)
      refine ite_yes (wanted_yes rfl (yielded_of (t := 65) (by kernel_rfl) eg)) ?_
      clear eg
      refine Or.inl ?_
      have e0 : a.eval (.tmp 10) = .pointer (some ⟨w7.heap.size, 0, none⟩) := hF.2.2 10 (by decide)
      have f0 := row_cell Rtz_11.out hb 0
      have f1 := row_cell Rtz_11.out hb 1
      have f2 := row_cell Rtz_11.out hb 2
      simp only [List.getElem?_toArray, List.getElem?_cons_succ, List.getElem?_cons_zero] at f0 f1 f2
      clear hw hF
      simp only [Oper.wp, execOp]
      rw [e0]
      go_simp
      exact hK _ x (by first | rfl | simp) (Below.refl _ _) (fun h => by cases h)
    · simp only [wpOp, List.getElem?_toArray, List.getElem?_cons_succ, List.getElem?_cons_zero]
      have eg : a.tmps.getD 65 undef = .bool false := hw 33 (by kernel_rfl)
      refine ite_yes (wanted_yes rfl (yielded_of (t := 65) (by kernel_rfl) eg)) ?_
      clear eg
      refine Or.inl ?_
      have e0 : a.tmps.getD 66 undef = .agg #[.bool (decide (my < 0)), .slice A5 (digs my.natAbs).length c5, .int .i64 yy] := hw 34 (by kernel_rfl)
      have e1 : a.tmps.getD 67 undef = .agg #[.bool (decide (mz < 0)), .slice A7 (digs mz.natAbs).length c7, .int .i64 yz] := hw 35 (by kernel_rfl)
      clear hw hF
      simp only [Oper.wp, execOp]
      go_simp
      refine (dcmp_any (m := my) (n := mz) (x := yy) (y := yz) (q := j2) ((L11.out.step hb).get (A := A5) (c := c5) (xs := digs my.natAbs) (by simp)) ((L11.out.step hb).get (A := A7) (c := c7) (xs := digs mz.natAbs) (by simp)) (Nat.le_trans Dy.out (by omega)) (Nat.le_trans Dz.out (by omega)) Ry.out Rz.out C3.out).mono ?_
      rintro e y ⟨rfl, hbb⟩
      exact hK _ y rfl hbb (fun h => by cases h)
    · simp only [wpOp, List.getElem?_toArray, List.getElem?_cons_succ, List.getElem?_cons_zero]
      have eg : a.tmps.getD 65 undef = .bool false := hw 33 (by kernel_rfl)
      refine ite_yes (wanted_yes rfl (yielded_of (t := 65) (by kernel_rfl) eg)) ?_
      clear eg
      refine Or.inl ?_
      have e0 : a.tmps.getD 68 undef = .int .i64 j2 := hw 36 (by kernel_rfl)
      clear hw hF
      have g1 := G1.out
      have hq := HQ.out
      have j0 := J0.out
      have j1 := J1.out
      have qq : (q == q) = true := by simp
      have jj : (j == j) = true := by simp
      have nn : (-j == -j) = true := by simp
      have hwr : IntKind.i64.wrap (-j) = -j := by rw [IntWalk.i64_in _ (by omega)]
      have g2 := G2.out
      have g3 := G3.out
      simp only [Oper.wp, execOp]
      go_simp
      exact hK _ x (by first | rfl | simp) (Below.refl _ _) (fun h => by cases h)
    · simp only [wpOp, List.getElem?_toArray, List.getElem?_cons_succ, List.getElem?_cons_zero]
      have eg : a.tmps.getD 62 undef = .bool true := hw 30 (by kernel_rfl)
      refine ite_yes (wanted_yes rfl (yielded_of (t := 62) (by kernel_rfl) eg)) ?_
      clear eg
      refine Or.inl ?_
      have e0 : a.tmps.getD 65 undef = .bool false := hw 33 (by kernel_rfl)
      have e1 : a.tmps.getD 69 undef = .bool false := hw 37 (by kernel_rfl)
      clear hw hF
      have g1 := G1.out
      have hq := HQ.out
      have j0 := J0.out
      have j1 := J1.out
      have qq : (q == q) = true := by simp
      have jj : (j == j) = true := by simp
      have nn : (-j == -j) = true := by simp
      have hwr : IntKind.i64.wrap (-j) = -j := by rw [IntWalk.i64_in _ (by omega)]
      have g2 := G2.out
      have g3 := G3.out
      simp only [Oper.wp, execOp]
      go_simp
      exact hK _ x (by first | rfl | simp) (Below.refl _ _) (fun h => by cases h)
    · simp only [wpOp, List.getElem?_toArray, List.getElem?_cons_succ, List.getElem?_cons_zero]
      have eg : a.tmps.getD 62 undef = .bool true := hw 30 (by kernel_rfl)
      refine ite_yes (wanted_yes rfl (yielded_of (t := 62) (by kernel_rfl) eg)) ?_
      clear eg
      refine Or.inl ?_
      have e0 : a.tmps.getD 70 undef = .bool false := hw 38 (by kernel_rfl)
      clear hw hF
      simp only [Oper.wp, execOp]
      go_simp
      exact hK _ x (by first | rfl | simp) (Below.refl _ _) (fun h => by cases h)
    · simp only [wpOp, List.getElem?_toArray, List.getElem?_cons_succ, List.getElem?_cons_zero]
      have eg : a.tmps.getD 71 undef = .bool false := hw 39 (by kernel_rfl)
      refine ite_yes (wanted_yes rfl (yielded_of (t := 71) (by kernel_rfl) eg)) ?_
      clear eg
      refine Or.inl ?_
      have e0 : a.eval (.tmp 8) = .pointer (some ⟨w3.heap.size, 0, none⟩) := hF.2.2 8 (by decide)
      have f0 := row_cell Rtx_11.out hb 0
      have f1 := row_cell Rtx_11.out hb 1
      have f2 := row_cell Rtx_11.out hb 2
      simp only [List.getElem?_toArray, List.getElem?_cons_succ, List.getElem?_cons_zero] at f0 f1 f2
      clear hw hF
      simp only [Oper.wp, execOp]
      rw [e0]
      go_simp
      exact hK _ x (by first | rfl | simp) (Below.refl _ _) (fun h => by cases h)
    · simp only [wpOp, List.getElem?_toArray, List.getElem?_cons_succ, List.getElem?_cons_zero]
      have eg : a.tmps.getD 71 undef = .bool false := hw 39 (by kernel_rfl)
      refine ite_yes (wanted_yes rfl (yielded_of (t := 71) (by kernel_rfl) eg)) ?_
      clear eg
      refine Or.inl ?_
      have e0 : a.eval (.tmp 10) = .pointer (some ⟨w7.heap.size, 0, none⟩) := hF.2.2 10 (by decide)
      have f0 := row_cell Rtz_11.out hb 0
      have f1 := row_cell Rtz_11.out hb 1
      have f2 := row_cell Rtz_11.out hb 2
      simp only [List.getElem?_toArray, List.getElem?_cons_succ, List.getElem?_cons_zero] at f0 f1 f2
      clear hw hF
      simp only [Oper.wp, execOp]
      rw [e0]
      go_simp
      exact hK _ x (by first | rfl | simp) (Below.refl _ _) (fun h => by cases h)
    · simp only [wpOp, List.getElem?_toArray, List.getElem?_cons_succ, List.getElem?_cons_zero]
      have eg : a.tmps.getD 71 undef = .bool false := hw 39 (by kernel_rfl)
      refine ite_yes (wanted_yes rfl (yielded_of (t := 71) (by kernel_rfl) eg)) ?_
      clear eg
      refine Or.inl ?_
      have e0 : a.tmps.getD 72 undef = .agg #[.bool (decide (mx < 0)), .slice A3 (digs mx.natAbs).length c3, .int .i64 yx] := hw 40 (by kernel_rfl)
      have e1 : a.tmps.getD 73 undef = .agg #[.bool (decide (mz < 0)), .slice A7 (digs mz.natAbs).length c7, .int .i64 yz] := hw 41 (by kernel_rfl)
      clear hw hF
      simp only [Oper.wp, execOp]
      go_simp
      refine (dcmp_any (m := mx) (n := mz) (x := yx) (y := yz) (q := j3) ((L11.out.step hb).get (A := A3) (c := c3) (xs := digs mx.natAbs) (by simp)) ((L11.out.step hb).get (A := A7) (c := c7) (xs := digs mz.natAbs) (by simp)) (Nat.le_trans Dx.out (by omega)) (Nat.le_trans Dz.out (by omega)) Rx.out Rz.out C4.out).mono ?_
      rintro e y ⟨rfl, hbb⟩
      exact hK _ y rfl hbb (fun h => by cases h)
    · simp only [wpOp, List.getElem?_toArray, List.getElem?_cons_succ, List.getElem?_cons_zero]
      have eg : a.tmps.getD 71 undef = .bool false := hw 39 (by kernel_rfl)
      refine ite_yes (wanted_yes rfl (yielded_of (t := 71) (by kernel_rfl) eg)) ?_
      clear eg
      refine Or.inl ?_
      have e0 : a.tmps.getD 74 undef = .int .i64 j3 := hw 42 (by kernel_rfl)
      clear hw hF
      have g1 := G1.out
      have hq := HQ.out
      have j0 := J0.out
      have j1 := J1.out
      have qq : (q == q) = true := by simp
      have jj : (j == j) = true := by simp
      have nn : (-j == -j) = true := by simp
      have hwr : IntKind.i64.wrap (-j) = -j := by rw [IntWalk.i64_in _ (by omega)]
      have g2 := G2.out
      have g3 := G3.out
      simp only [Oper.wp, execOp]
      go_simp
      exact hK _ x (by first | rfl | simp) (Below.refl _ _) (fun h => by cases h)
    · simp only [wpOp, List.getElem?_toArray, List.getElem?_cons_succ, List.getElem?_cons_zero]
      have eg : a.tmps.getD 62 undef = .bool true := hw 30 (by kernel_rfl)
      refine ite_yes (wanted_yes rfl (yielded_of (t := 62) (by kernel_rfl) eg)) ?_
      clear eg
      refine Or.inl ?_
      have e0 : a.tmps.getD 71 undef = .bool false := hw 39 (by kernel_rfl)
      have e1 : a.tmps.getD 75 undef = .bool true := hw 43 (by kernel_rfl)
      clear hw hF
      have g1 := G1.out
      have hq := HQ.out
      have j0 := J0.out
      have j1 := J1.out
      have qq : (q == q) = true := by simp
      have jj : (j == j) = true := by simp
      have nn : (-j == -j) = true := by simp
      have hwr : IntKind.i64.wrap (-j) = -j := by rw [IntWalk.i64_in _ (by omega)]
      have g2 := G2.out
      have g3 := G3.out
      simp only [Oper.wp, execOp]
      go_simp
      exact hK _ x (by first | rfl | simp) (Below.refl _ _) (fun h => by cases h)
    · simp only [wpOp, List.getElem?_toArray, List.getElem?_cons_succ, List.getElem?_cons_zero, Region.wanted, if_true]
      refine Or.inl ?_
      have e0 : a.tmps.getD 62 undef = .bool true := hw 30 (by kernel_rfl)
      have e1 : a.tmps.getD 76 undef = .bool true := hw 44 (by kernel_rfl)
      clear hw hF
      have g1 := G1.out
      have hq := HQ.out
      have j0 := J0.out
      have j1 := J1.out
      have qq : (q == q) = true := by simp
      have jj : (j == j) = true := by simp
      have nn : (-j == -j) = true := by simp
      have hwr : IntKind.i64.wrap (-j) = -j := by rw [IntWalk.i64_in _ (by omega)]
      have g2 := G2.out
      have g3 := G3.out
      simp only [Oper.wp, execOp]
      go_simp
      exact hK _ x (by first | rfl | simp) (Below.refl _ _) (fun h => by cases h)
    · simp only [wpOp, List.getElem?_toArray, List.getElem?_cons_succ, List.getElem?_cons_zero, Region.wanted, if_true]
      refine Or.inl ?_
      have e0 : a.tmps.getD 77 undef = .bool true := hw 45 (by kernel_rfl)
      clear hw hF
      simp only [Oper.wp, execOp]
      go_simp
      exact hK _ x (by first | rfl | simp) (Below.refl _ _) (fun h => by cases h)
    · simp only [wpOp, List.getElem?_toArray, List.getElem?_cons_succ, List.getElem?_cons_zero]
      have eg : a.tmps.getD 78 undef = .bool true := hw 46 (by kernel_rfl)
      refine ite_yes (wanted_yes rfl (yielded_of (t := 78) (by kernel_rfl) eg)) ?_
      clear eg
      refine Or.inl ?_
      have e0 : a.eval (.tmp 11) = .int .i64 j := hF.2.2 11 (by decide)
      clear hw hF
      simp only [Oper.wp, execOp]
      rw [e0]
      go_simp
      exact hK _ x (by first | rfl | simp) (Below.refl _ _) (fun h => by cases h)
    · simp only [wpOp, List.getElem?_toArray, List.getElem?_cons_succ, List.getElem?_cons_zero]
      have eg : a.tmps.getD 78 undef = .bool true := hw 46 (by kernel_rfl)
      refine ite_yes (wanted_yes rfl (yielded_of (t := 78) (by kernel_rfl) eg)) ?_
      clear eg
      refine Or.inl ?_
      have e0 : a.tmps.getD 79 undef = .int .i64 j := hw 47 (by kernel_rfl)
      clear hw hF
      have g1 := G1.out
      have hq := HQ.out
      have j0 := J0.out
      have j1 := J1.out
      have qq : (q == q) = true := by simp
      have jj : (j == j) = true := by simp
      have nn : (-j == -j) = true := by simp
      have hwr : IntKind.i64.wrap (-j) = -j := by rw [IntWalk.i64_in _ (by omega)]
      have g2 := G2.out
      have g3 := G3.out
      simp only [Oper.wp, execOp]
      go_simp
      exact hK _ x (by first | rfl | simp) (Below.refl _ _) (fun h => by cases h)
    · simp only [wpOp, List.getElem?_toArray, List.getElem?_cons_succ, List.getElem?_cons_zero]
      have eg : a.tmps.getD 78 undef = .bool true := hw 46 (by kernel_rfl)
      refine ite_yes (wanted_yes rfl (yielded_of (t := 78) (by kernel_rfl) eg)) ?_
      clear eg
      refine Or.inl ?_
      have e0 : a.eval (.tmp 8) = .pointer (some ⟨w3.heap.size, 0, none⟩) := hF.2.2 8 (by decide)
      have f0 := row_cell Rtx_11.out hb 0
      have f1 := row_cell Rtx_11.out hb 1
      have f2 := row_cell Rtx_11.out hb 2
      simp only [List.getElem?_toArray, List.getElem?_cons_succ, List.getElem?_cons_zero] at f0 f1 f2
      clear hw hF
      simp only [Oper.wp, execOp]
      rw [e0]
      go_simp
      exact hK _ x (by first | rfl | simp) (Below.refl _ _) (fun h => by cases h)
    · simp only [wpOp, List.getElem?_toArray, List.getElem?_cons_succ, List.getElem?_cons_zero]
      have eg : a.tmps.getD 78 undef = .bool true := hw 46 (by kernel_rfl)
      refine ite_yes (wanted_yes rfl (yielded_of (t := 78) (by kernel_rfl) eg)) ?_
      clear eg
      refine Or.inl ?_
      have e0 : a.eval (.tmp 9) = .pointer (some ⟨w5.heap.size, 0, none⟩) := hF.2.2 9 (by decide)
      have f0 := row_cell Rty_11.out hb 0
      have f1 := row_cell Rty_11.out hb 1
      have f2 := row_cell Rty_11.out hb 2
      simp only [List.getElem?_toArray, List.getElem?_cons_succ, List.getElem?_cons_zero] at f0 f1 f2
      clear hw hF
      simp only [Oper.wp, execOp]
      rw [e0]
      go_simp
      exact hK _ x (by first | rfl | simp) (Below.refl _ _) (fun h => by cases h)
    · simp only [wpOp, List.getElem?_toArray, List.getElem?_cons_succ, List.getElem?_cons_zero]
      have eg : a.tmps.getD 78 undef = .bool true := hw 46 (by kernel_rfl)
      refine ite_yes (wanted_yes rfl (yielded_of (t := 78) (by kernel_rfl) eg)) ?_
      clear eg
      refine Or.inl ?_
      have e0 : a.tmps.getD 81 undef = .agg #[.bool (decide (mx < 0)), .slice A3 (digs mx.natAbs).length c3, .int .i64 yx] := hw 49 (by kernel_rfl)
      have e1 : a.tmps.getD 82 undef = .agg #[.bool (decide (my < 0)), .slice A5 (digs my.natAbs).length c5, .int .i64 yy] := hw 50 (by kernel_rfl)
      clear hw hF
      simp only [Oper.wp, execOp]
      go_simp
      refine (dsame_d (m := mx) (n := my) (x := yx) (y := yy) (q := q) ((L11.out.step hb).get (A := A3) (c := c3) (xs := digs mx.natAbs) (by simp)) ((L11.out.step hb).get (A := A5) (c := c5) (xs := digs my.natAbs) (by simp)) Dx.out HS.out).mono ?_
      rintro e y ⟨rfl, hbb⟩
      exact hK _ y rfl hbb (fun h => by cases h)
    · simp only [wpOp, List.getElem?_toArray, List.getElem?_cons_succ, List.getElem?_cons_zero]
      have eg : a.tmps.getD 78 undef = .bool true := hw 46 (by kernel_rfl)
      refine ite_yes (wanted_yes rfl (yielded_of (t := 78) (by kernel_rfl) eg)) ?_
      clear eg
      refine Or.inl ?_
      have e0 : a.tmps.getD 80 undef = .bool q := hw 48 (by kernel_rfl)
      have e1 : a.tmps.getD 83 undef = .bool q := hw 51 (by kernel_rfl)
      clear hw hF
      have g1 := G1.out
      have hq := HQ.out
      have j0 := J0.out
      have j1 := J1.out
      have qq : (q == q) = true := by simp
      have jj : (j == j) = true := by simp
      have nn : (-j == -j) = true := by simp
      have hwr : IntKind.i64.wrap (-j) = -j := by rw [IntWalk.i64_in _ (by omega)]
      have g2 := G2.out
      have g3 := G3.out
      simp only [Oper.wp, execOp]
      go_simp
      exact hK _ x (by first | rfl | simp) (Below.refl _ _) (fun h => by cases h)
    · simp only [wpOp, List.getElem?_toArray, List.getElem?_cons_succ, List.getElem?_cons_zero, Region.wanted, if_true]
      refine Or.inl ?_
      have e0 : a.tmps.getD 78 undef = .bool true := hw 46 (by kernel_rfl)
      have e1 : a.tmps.getD 84 undef = .bool true := hw 52 (by kernel_rfl)
      clear hw hF
      have g1 := G1.out
      have hq := HQ.out
      have j0 := J0.out
      have j1 := J1.out
      have qq : (q == q) = true := by simp
      have jj : (j == j) = true := by simp
      have nn : (-j == -j) = true := by simp
      have hwr : IntKind.i64.wrap (-j) = -j := by rw [IntWalk.i64_in _ (by omega)]
      have g2 := G2.out
      have g3 := G3.out
      simp only [Oper.wp, execOp]
      go_simp
      exact hK _ x (by first | rfl | simp) (Below.refl _ _) (fun h => by cases h)
  · intro a x hF hb hR _
    have e0 : a.tmps.getD 32 undef = .bool true := hR 0 (by decide)
    have e1 : a.tmps.getD 33 undef = .bool true := hR 1 (by decide)
    have e2 : a.tmps.getD 34 undef = .int .i64 0 := hR 2 (by decide)
    have e3 : a.tmps.getD 35 undef = .bool true := hR 3 (by decide)
    have e4 : a.tmps.getD 36 undef = .bool true := hR 4 (by decide)
    have e5 : a.tmps.getD 37 undef = .bool true := hR 5 (by decide)
    have e6 : a.tmps.getD 38 undef = .agg #[.bool (decide (Md < 0)), .slice A10 (digs Md.natAbs).length c10, .int .i64 Ed] := hR 6 (by decide)
    have e7 : a.tmps.getD 39 undef = .agg #[.bool false, .slice none 0 0, .int .i64 0] := hR 7 (by decide)
    have e8 : a.tmps.getD 40 undef = .int .i64 j := hR 8 (by decide)
    have e9 : a.tmps.getD 41 undef = .int .i64 j := hR 9 (by decide)
    have e10 : a.tmps.getD 42 undef = .bool true := hR 10 (by decide)
    have e11 : a.tmps.getD 43 undef = .bool true := hR 11 (by decide)
    have e12 : a.tmps.getD 44 undef = .bool true := hR 12 (by decide)
    have e13 : a.tmps.getD 45 undef = .agg #[.bool (decide (my < 0)), .slice A5 (digs my.natAbs).length c5, .int .i64 yy] := hR 13 (by decide)
    have e14 : a.tmps.getD 46 undef = .agg #[.bool (decide (mx < 0)), .slice A3 (digs mx.natAbs).length c3, .int .i64 yx] := hR 14 (by decide)
    have e15 : a.tmps.getD 47 undef = .int .i64 (-j) := hR 15 (by decide)
    have e16 : a.tmps.getD 48 undef = .int .i64 j := hR 16 (by decide)
    have e17 : a.tmps.getD 49 undef = .int .i64 (-j) := hR 17 (by decide)
    have e18 : a.tmps.getD 50 undef = .bool true := hR 18 (by decide)
    have e19 : a.tmps.getD 51 undef = .bool true := hR 19 (by decide)
    have e20 : a.tmps.getD 52 undef = .bool true := hR 20 (by decide)
    have e21 : a.tmps.getD 53 undef = .agg #[.bool (decide (mx < 0)), .slice A3 (digs mx.natAbs).length c3, .int .i64 yx] := hR 21 (by decide)
    obtain ⟨_, _, e22, _⟩ := hR 22 (by decide)
    have e22 : a.tmps.getD 54 undef = _ := e22
    have e23 : a.tmps.getD 55 undef = .agg #[.bool (decide (my < 0)), .slice A5 (digs my.natAbs).length c5, .int .i64 yy] := hR 23 (by decide)
    obtain ⟨_, _, e24, _⟩ := hR 24 (by decide)
    have e24 : a.tmps.getD 56 undef = _ := e24
    have e25 : a.tmps.getD 57 undef = .int .i64 (-j) := hR 25 (by decide)
    have e26 : a.tmps.getD 58 undef = .int .i64 j := hR 26 (by decide)
    have e27 : a.tmps.getD 59 undef = .int .i64 (-j) := hR 27 (by decide)
    have e28 : a.tmps.getD 60 undef = .bool true := hR 28 (by decide)
    have e29 : a.tmps.getD 61 undef = .bool true := hR 29 (by decide)
    have e30 : a.tmps.getD 62 undef = .bool true := hR 30 (by decide)
    have e31 : a.tmps.getD 63 undef = .int .i64 j := hR 31 (by decide)
    have e32 : a.tmps.getD 64 undef = .bool false := hR 32 (by decide)
    have e33 : a.tmps.getD 65 undef = .bool false := hR 33 (by decide)
    have e34 : a.tmps.getD 66 undef = .agg #[.bool (decide (my < 0)), .slice A5 (digs my.natAbs).length c5, .int .i64 yy] := hR 34 (by decide)
    have e35 : a.tmps.getD 67 undef = .agg #[.bool (decide (mz < 0)), .slice A7 (digs mz.natAbs).length c7, .int .i64 yz] := hR 35 (by decide)
    have e36 : a.tmps.getD 68 undef = .int .i64 j2 := hR 36 (by decide)
    have e37 : a.tmps.getD 69 undef = .bool false := hR 37 (by decide)
    have e38 : a.tmps.getD 70 undef = .bool false := hR 38 (by decide)
    have e39 : a.tmps.getD 71 undef = .bool false := hR 39 (by decide)
    have e40 : a.tmps.getD 72 undef = .agg #[.bool (decide (mx < 0)), .slice A3 (digs mx.natAbs).length c3, .int .i64 yx] := hR 40 (by decide)
    have e41 : a.tmps.getD 73 undef = .agg #[.bool (decide (mz < 0)), .slice A7 (digs mz.natAbs).length c7, .int .i64 yz] := hR 41 (by decide)
    have e42 : a.tmps.getD 74 undef = .int .i64 j3 := hR 42 (by decide)
    have e43 : a.tmps.getD 75 undef = .bool true := hR 43 (by decide)
    have e44 : a.tmps.getD 76 undef = .bool true := hR 44 (by decide)
    have e45 : a.tmps.getD 77 undef = .bool true := hR 45 (by decide)
    have e46 : a.tmps.getD 78 undef = .bool true := hR 46 (by decide)
    have e47 : a.tmps.getD 79 undef = .int .i64 j := hR 47 (by decide)
    have e48 : a.tmps.getD 80 undef = .bool q := hR 48 (by decide)
    have e49 : a.tmps.getD 81 undef = .agg #[.bool (decide (mx < 0)), .slice A3 (digs mx.natAbs).length c3, .int .i64 yx] := hR 49 (by decide)
    have e50 : a.tmps.getD 82 undef = .agg #[.bool (decide (my < 0)), .slice A5 (digs my.natAbs).length c5, .int .i64 yy] := hR 50 (by decide)
    have e51 : a.tmps.getD 83 undef = .bool q := hR 51 (by decide)
    have e52 : a.tmps.getD 84 undef = .bool true := hR 52 (by decide)
    have e53 : a.tmps.getD 85 undef = .bool true := hR 53 (by decide)
    rw [hF.fold (by kernel_rfl)]
    simp only [List.foldl_cons, List.foldl_nil, e0, e1, e2, e3, e4, e5, e6, e7, e8, e9, e10, e11, e12, e13, e14, e15, e16, e17, e18, e19, e20, e21, e22, e23, e24, e25, e26, e27, e28, e29, e30, e31, e32, e33, e34, e35, e36, e37, e38, e39, e40, e41, e42, e43, e44, e45, e46, e47, e48, e49, e50, e51, e52, e53]
    simp only [Act.put, List.setIfInBounds_toArray, List.set_cons_zero, List.set_cons_succ]
    change wpOps _ _ _ [54] _ _
    simp only [wpOps_cons]
    clear e0 e1 e2 e3 e4 e5 e6 e7 e8 e9 e10 e11 e12 e13 e14 e15 e16 e17 e18 e19 e20 e21 e22 e23 e24 e25 e26 e27 e28 e29 e30 e31 e32 e33 e34 e35 e36 e37 e38 e39 e40 e41 e42 e43 e44 e45 e46 e47 e48 e49 e50 e51 e52 e53 hR hF
    have HE := Lib.hid (L11.out.step hb)
    simp only [wpOp, List.getElem?_toArray, List.getElem?_cons_succ, List.getElem?_cons_zero, Region.wanted, if_true]
    refine Or.inl ?_
    simp only [Oper.wp, execOp]
    go_simp
    try simp only [wpOps]
    go_wp2
    go_ret
    exact ⟨rfl, HE.out.1⟩
end Go.Proofs.YtnfafgpnnpapdaaDoor
end

section
/-
  DyadOrder.
-/
namespace Go.Proofs.YtnfafgpnnpapdaaDoor
open Go.RowKit
set_option linter.unusedSimpArgs false
set_option linter.unusedVariables false
theorem dyadOrder_any  (Ax : Option Addr) (cx : Nat) (sx : Bool) (xsx : List Nat) (ex : Int) (Ay : Option Addr) (cy : Nat) (sy : Bool) (xsy : List Nat) (ey : Int) (Az : Option Addr) (cz : Nat) (sz : Bool) (xsz : List Nat) (ez : Int) (w : World)  (hx : Dg w Ax cx xsx) (lx : xsx.length ≤ 9223372036854775807) (ex0 : -9223372036854775808 ≤ ex) (ex1 : ex ≤ 9223372036854775807) (hy : Dg w Ay cy xsy) (ly : xsy.length ≤ 9223372036854775807) (ey0 : -9223372036854775808 ≤ ey) (ey1 : ey ≤ 9223372036854775807) (hz : Dg w Az cz xsz) (lz : xsz.length ≤ 9223372036854775807) (ez0 : -9223372036854775808 ≤ ez) (ez1 : ez ≤ 9223372036854775807) (hT : T32 w) :
    Calls Tryd.prog 13 #[.agg #[.bool sx, .slice Ax xsx.length cx, .int .i64 ex], .agg #[.bool sy, .slice Ay xsy.length cy, .int .i64 ey], .agg #[.bool sz, .slice Az xsz.length cz, .int .i64 ez]] w fun e w' => e = .returned (.bool true) ∧ Below w.heap.size w w' := by
  by_cases c1 : 0 < cmpd (dv (nm (sg sx (val (xsx.take 6)))) (nx (sg sx (val (xsx.take 6))) (tameE ex))) (dv (nm (sg sy (val (xsy.take 6)))) (nx (sg sy (val (xsy.take 6))) (tameE ey)))
  · exact dyadOrder_g Ax cx sx xsx ex Ay cy sy xsy ey Az cz sz xsz ez w hx lx ex0 ex1 hy ly ey0 ey1 hz lz ez0 ez1 hT c1
  · by_cases c2 : 0 < cmpd (dv (nm (sg sy (val (xsy.take 6)))) (nx (sg sy (val (xsy.take 6))) (tameE ey))) (dv (nm (sg sz (val (xsz.take 6)))) (nx (sg sz (val (xsz.take 6))) (tameE ez)))
    · exact dyadOrder_y Ax cx sx xsx ex Ay cy sy xsy ey Az cz sz xsz ez w hx lx ex0 ex1 hy ly ey0 ey1 hz lz ez0 ez1 hT c1 c2
    · exact dyadOrder_e Ax cx sx xsx ex Ay cy sy xsy ey Az cz sz xsz ez w hx lx ex0 ex1 hy ly ey0 ey1 hz lz ez0 ez1 hT c1 c2
end Go.Proofs.YtnfafgpnnpapdaaDoor
end

section
/-
  DyadOrder, FOR EVERY ARGUMENT: the law returns true, and each argument reads behind the call as it read ahead of it. THE TIED CARD.
-/
namespace Go.Proofs.YtnfafgpnnpapdaaDoor.dyadOrder
open Go Go.ChangeShapes Go.WideShapes Go.ChangeAt Go.RowKit
set_option linter.unusedVariables false
/-- The door's own heap meets the condition. -/
theorem door_met (os : Os) (args : Array Value) : laidMetH Tryd.prog Rows.dyadOrderRow.laid ((World.doorLaid Tryd.prog 400 os).forCall (fun _ _ => 0) ⟨#[], args, []⟩).memory :=
  laidMetH_of_parts3 (fuel := 8) (laidMet_of_run' 8 (by kernel_rfl) (by kernel_rfl)) (by kernel_rfl) (by kernel_rfl)
set_option maxRecDepth 100000 in
theorem lifted (os : Os) (started : os.Started) (H : Type) (enc : TypeId × Value → H) :
    ReturnsInHanded {} Tryd.checked os 13 .any (fun w args => (Rows.dyadOrderSpec.pre enc Tryd.prog Tryd.f13 [] false w args ∧ laidMetH Tryd.prog Rows.dyadOrderRow.laid w) ∧ sizedMet enc Tryd.prog Tryd.f13 (OpenSpec.ofChange Rows.dyadOrderSpec) false w args)
      (Rows.dyadOrderSpec.post enc Tryd.prog Tryd.f13 false true false false) := by
  refine returnsInHanded_of_change_and (C := Tryd.checked) (X := fun w _ => laidMetH Tryd.prog Rows.dyadOrderRow.laid w) (fun _ _ _ hh h => h.of_heap hh) own started (by kernel_rfl) Tryd.func13
    (ChangeSpec.witness_shaped (enc := enc) (C := Tryd.checked) (os := os) (X := fun w _ => laidMetH Tryd.prog Rows.dyadOrderRow.laid w) false (World.doorLaid Tryd.prog 400 os) #[.agg #[.bool false, .slice none 0 0, .int .i64 0], .agg #[.bool false, .slice none 0 0, .int .i64 0], .agg #[.bool false, .slice none 0 0, .int .i64 0]] 8 rfl (World.shaped_of_RefB (by kernel_rfl) (by kernel_rfl)) (by kernel_rfl) (by kernel_rfl) (by kernel_rfl) (door_met os _)) ?_
  intro W base args ds gs before hval0 hW _ _ hL _
  rw [MakeChecks.laidMetH_plain _ _ _ (by kernel_rfl)] at hL
  have htab := t32_laid hL
  clear hL
  have hval : ∀ (j : Nat) t v, Tryd.f13.params[j]? = some t → args[j]? = some v → Value.okWide Tryd.prog W .any base t v := hval0
  have hW' := hW
  obtain ⟨p, q, hA0, hV, rfl, hfz, hnd⟩ := hW
  have hA : DataW.TrodAll enc Tryd.prog W 0 (fun _ => true) true Tryd.f13.params.toList args.toList ds p := hA0
  rw [Tryd.params13] at hA hval
  obtain ⟨v0, vs0, d0, ds0, p0, q0, hargs, rfl, rfl, h0, r0⟩ := trodAll_cons hA
  obtain ⟨v1, vs1, d1, ds1, p1, q1, rfl, rfl, rfl, h1, r1⟩ := trodAll_cons r0
  obtain ⟨v2, vs2, d2, ds2, p2, q2, rfl, rfl, rfl, h2, r2⟩ := trodAll_cons r1
  obtain ⟨rfl, rfl, rfl⟩ := trodAll_nil r2
  obtain rfl : args = #[v0, v1, v2] := by cases args; simp_all
  obtain ⟨rfl, rfl⟩ := trodVars_none hV
  obtain ⟨s0, A0, c0, xs0, x0, rfl, g0, l0, x00, x01⟩ := open_d (hval 0 _ _ rfl rfl) h0
  obtain ⟨s1, A1, c1, xs1, x1, rfl, g1, l1, x10, x11⟩ := open_d (hval 1 _ _ rfl rfl) h1
  obtain ⟨s2, A2, c2, xs2, x2, rfl, g2, l2, x20, x21⟩ := open_d (hval 2 _ _ rfl rfl) h2
  clear hA0
  simp only [List.append_nil] at hW'
  refine (dyadOrder_any A0 c0 s0 xs0 x0 A1 c1 s1 xs1 x1 A2 c2 s2 xs2 x2 W g0 l0 x00 x01 g1 l1 x10 x11 g2 l2 x20 x21 htab).mono fun e W' ⟨he, hb⟩ => ?_
  subst he
  have hlt := hW'.lt
  refine ⟨_, rfl, law_post (tb := 4) hW' hb rfl rfl Tryd.underlying4 rfl rfl fun sp hsp => ?_⟩
  have hr := trodAll_cons_mk (again (by kernel_rfl) (of_decide_eq_true (by kernel_rfl)) h0 hb (fun x hx => hlt x (by simp [hx])) sp (fun x hx => hsp x (by simp [hx]))) (trodAll_cons_mk (again (by kernel_rfl) (of_decide_eq_true (by kernel_rfl)) h1 hb (fun x hx => hlt x (by simp [hx])) sp (fun x hx => hsp x (by simp [hx]))) (trodAll_cons_mk (again (by kernel_rfl) (of_decide_eq_true (by kernel_rfl)) h2 hb (fun x hx => hlt x (by simp [hx])) sp (fun x hx => hsp x (by simp [hx]))) trodAll_mk0))
  simp only [List.append_nil] at hr
  exact hr
theorem row_holds : Rows.DyadOrderSaid :=
  OpenClaim.holds_of_wide 13 Tryd.f13 rfl rfl rfl rfl rfl rfl rfl ⟨rfl, rfl, rfl, rfl, rfl⟩ rfl rfl rfl rfl rfl (by kernel_rfl) Tryd.func13 (by kernel_rfl)
    (of_decide_eq_true (by kernel_rfl)) (by unfold Func.isWrapper; first | (rw [if_pos (by decide +kernel)]; kernel_rfl) | (rw [if_neg (by decide +kernel)]; exact ⟨rfl, rfl⟩))
    (fun os started H enc _ => lifted os started H enc)
/-- THE TIED CARD. -/
theorem proved : Rows.DyadOrderCardSaid :=
  Claim7.holds_tied_plain_at .later [] [.data] true (true, "7c66bf396cc85edd26b252ab6783573fce3f6eda62d94517dafae4d8f0360cd0") false
    row_holds (fun _ h => by cases h) (by kernel_rfl) (fun _ h => by cases h) dyadOrder_row_tie rfl ⟨rfl, rfl⟩ (by kernel_rfl) rfl
    (fun f fn hf hfn => by
      obtain rfl : f = 13 := Option.some.inj ((show Tryd.prog.funcNamed Rows.dyadOrderRow.func = some 13 by kernel_rfl).symm.trans hf) |>.symm
      obtain rfl : fn = Tryd.f13 := (Option.some.inj (Tryd.func13.symm.trans hfn)).symm
      exact ⟨by kernel_rfl, fun j t ht => by
        have hall : (Tryd.f13.params.toList.all fun u => !Tryd.prog.wantsStandIn u) = true := by kernel_rfl
        exact (show Tryd.prog.wantsStandIn t = false by simpa using List.all_eq_true.1 hall t (Array.mem_toList_iff.2 (Array.mem_of_getElem? ht)))⟩)
    (by kernel_rfl)
end Go.Proofs.YtnfafgpnnpapdaaDoor.dyadOrder
end
