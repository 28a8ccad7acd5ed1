import Derived.Test.YtnfafgpnnpapdaaDoorMB8
import Derived.Test.YtnfafgpnnpapdaaDoorMB9
import Derived.Test.YtnfafgpnnpapdaaDoorMB5
import Derived.Test.YtnfafgpnnpapdaaDoorTie
import Derived.Test.YtnfafgpnnpapdaaDoorCards
import Derived.SevenTiedAt
import Derived.OpenShut
import Derived.ChangeMaps5
section
/-
  DyadSteps.
-/
namespace Go.Proofs.YtnfafgpnnpapdaaDoor
open Go.RowKit
set_option linter.unusedSimpArgs false
set_option linter.unusedVariables false
theorem Tm.bd {M E : Int} (h : Tm M E) : Bd (-300) 492 M E := by
  refine ⟨h.1, ?_⟩
  by_cases h0 : M = 0
  · exact .inl h0
  · exact .inr (h.2.2 h0)
theorem Bd.rt {L H M E : Int} (h : Bd L H M E) (hL : -65536 ≤ L) (hH : H ≤ 65536) : Rt M E := by
  refine ⟨h.1, ?_⟩
  rcases h.2 with h0 | ⟨a, b⟩
  · have := nf_zero h.1 h0; omega
  · omega

set_option maxHeartbeats 8000000 in
set_option maxRecDepth 100000 in
theorem dyadSteps_any  (Ax : Option Addr) (cx : Nat) (sx : Bool) (xsx : List Nat) (ex : Int) (p : Int) (q : Int) (up : Bool) (w : World)  (hx : Dg w Ax cx xsx) (lx : xsx.length ≤ 9223372036854775807) (ex0 : -9223372036854775808 ≤ ex) (ex1 : ex ≤ 9223372036854775807) (p0 : -9223372036854775808 ≤ p) (p1 : p ≤ 9223372036854775807) (q0 : -9223372036854775808 ≤ q) (q1 : q ≤ 9223372036854775807) (hT : T32 w):
    Calls Tryd.prog 14 #[.agg #[.bool sx, .slice Ax xsx.length cx, .int .i64 ex], .int .i64 p, .int .i64 q, .bool up] w fun e w' => e = .returned (.bool true) ∧ Below w.heap.size w w' := by
  obtain ⟨mx, hmx⟩ : ∃ m, nm (sg sx (val (xsx.take 6))) = m := ⟨_, rfl⟩
  obtain ⟨yx, hyx⟩ : ∃ m, nx (sg sx (val (xsx.take 6))) (tameE ex) = m := ⟨_, rfl⟩
  have tx : Tm mx yx := hmx ▸ hyx ▸ tame_tm hx.2.1
  have bx := tx.bd
  have HMx := Lib.hid hmx
  have HYx := Lib.hid hyx
  have LXx := Lib.hid lx
  have E0x := Lib.hid ex0
  have E1x := Lib.hid ex1
  have Rx := Lib.hid tx.rt
  have Ix := Lib.hid tx.inR
  have Dx := Lib.hid (inr_len tx.inR)
  obtain ⟨Pp, hPp⟩ : ∃ vv, precV p = vv := ⟨_, rfl⟩
  have hPbp := precV_bd p
  rw [hPp] at hPbp
  obtain ⟨kp, hkp⟩ : ∃ k : Nat, (k : Int) = Pp := ⟨Pp.toNat, by omega⟩
  have HPp := Lib.hid hPp
  have HKp := Lib.hid hkp
  have Q0p := Lib.hid p0
  have Q1p := Lib.hid p1
  have hk2p : 2 ≤ kp := by omega
  have hk4p : kp ≤ 400 := by omega
  have hk3p : kp ≤ 200 := by omega
  obtain ⟨Pq, hPq⟩ : ∃ vv, precV q = vv := ⟨_, rfl⟩
  have hPbq := precV_bd q
  rw [hPq] at hPbq
  obtain ⟨kq, hkq⟩ : ∃ k : Nat, (k : Int) = Pq := ⟨Pq.toNat, by omega⟩
  have HPq := Lib.hid hPq
  have HKq := Lib.hid hkq
  have Q0q := Lib.hid q0
  have Q1q := Lib.hid q1
  have hk2q : 2 ≤ kq := by omega
  have hk4q : kq ≤ 400 := by omega
  have hk3q : kq ≤ 200 := by omega
  obtain ⟨M1, E1, r1⟩ := rd_exists mx yx tx.1 (max kp kq) up (by omega)
  have b1 := bx.round (by omega) r1
  obtain ⟨M2, E2, r2⟩ := rd_exists M1 E1 b1.1 (min kp kq) up (by omega)
  have b2 := b1.round (by omega) r2
  have r3 := r1.steps (by omega) (by omega) r2
  have Ru := Lib.hid (Bd.rt b1 (by omega) (by omega))
  have Iu := Lib.hid (Bd.inR b1 (by omega) (by omega))
  have Du := Lib.hid (inr_len Iu.out)
  have Rv := Lib.hid (Bd.rt b2 (by omega) (by omega))
  have Iv := Lib.hid (Bd.inR b2 (by omega) (by omega))
  have Dv := Lib.hid (inr_len Iv.out)
  have Rz := Lib.hid (Bd.rt b2 (by omega) (by omega))
  have Iz := Lib.hid (Bd.inR b2 (by omega) (by omega))
  have Dz := Lib.hid (inr_len Iz.out)
  have HRu := Lib.hid r1
  have HRv := Lib.hid r2
  have HRz := Lib.hid r3
  obtain ⟨Pm, hPm⟩ : ∃ k : Int, max Pp Pq = k := ⟨_, rfl⟩
  obtain ⟨Pn, hPn⟩ : ∃ k : Int, min Pp Pq = k := ⟨_, rfl⟩
  have KM := Lib.hid (show ((max kp kq : Nat) : Int) = Pm by omega)
  have KN := Lib.hid (show ((min kp kq : Nat) : Int) = Pn by omega)
  have hm2 : 2 ≤ max kp kq ∧ max kp kq ≤ 400 := by omega
  have hn2 : 2 ≤ min kp kq ∧ min kp kq ≤ 400 := by omega
  have HM2 := Lib.hid hm2
  have HN2 := Lib.hid hn2
  have HT := Lib.hid hT
  clear hT
  have L0 := Lib.hid ((live_start w).add hx)
  clear hx lx ex0 ex1 hmx hyx tx bx p0 p1 hPp hPbp hkp q0 q1 hPq hPbq hkq r1 b1 r2 b2 r3 hm2 hn2
  go_enter Tryd.func14, Tryd.ntmps14
  go_wp2_with fail
  obtain ⟨v1, hW⟩ : ∃ W : World, W = (w.alloc (.cells #[.bool sx, .slice Ax xsx.length cx, .int .i64 ex] 26)) := ⟨_, rfl⟩
  rw [← hW]
  have hb : Below w.heap.size w v1 := by rw [hW]; exact ((Below.refl _ _).alloc (by simp <;> omega) _)
  have L1 := Lib.hid (L0.out.step hb)
  have Rx_1 := Lib.hid (show v1.heap[w.heap.size]? = some (.cells #[.bool sx, .slice Ax xsx.length cx, .int .i64 ex] 26 (0, 0)) by rw [hW]; have := heap_alloc_new w (.cells #[.bool sx, .slice Ax xsx.length cx, .int .i64 ex] 26); simpa using this)
  have Gx : w.heap.size ≤ w.heap.size := by have := L0.out.1.size; omega
  clear hW hb
  refine (dexamples_any _ (t32_live HT.out L1.out)).mono ?_
  rintro e w2 ⟨rfl, hb⟩
  have L2 := Lib.hid (L1.out.step hb)
  have Rx_2 := Lib.hid (cells_of Rx_1.out hb)
  clear hb 
  have fx0 := row_c (i := 0) Rx_2.out rfl
  have zx0 := frozen_of_row _ _ 0 _ _ Rx_2.out
  have fx1 := row_c (i := 1) Rx_2.out rfl
  have zx1 := frozen_of_row _ _ 1 _ _ Rx_2.out
  have fx2 := row_c (i := 2) Rx_2.out rfl
  have zx2 := frozen_of_row _ _ 2 _ _ Rx_2.out
  have xx := heap_lt Rx_2.out
  go_wp2_with fail
  refine (tame_any (M := mx) (E := yx) (L2.out.get (A := Ax) (c := cx) (xs := xsx) (by simp)) (t32_live HT.out L2.out) LXx.out E0x.out E1x.out HMx.out HYx.out).mono ?_
  rintro e w3 ⟨A3, c3, rfl, hd, hb⟩
  have L3 := Lib.hid ((L2.out.step hb).add hd)
  clear fx0 zx0 fx1 zx1 fx2 zx2 xx
  have Rx_3 := Lib.hid (cells_of Rx_2.out hb)
  clear hb hd
  go_wp2_with fail
  obtain ⟨w4, hW⟩ : ∃ W : World, W = (w3.alloc (.cells #[.bool (decide (mx < 0)), .slice A3 (digs mx.natAbs).length c3, .int .i64 yx] 26)) := ⟨_, rfl⟩
  rw [← hW]
  have hb : Below w3.heap.size w3 w4 := by rw [hW]; exact ((Below.refl _ _).alloc (by simp <;> omega) _)
  have L4 := Lib.hid (L3.out.step hb)
  have Rx_4 := Lib.hid (cells_of Rx_3.out hb)
  have Rtx_4 := Lib.hid (show w4.heap[w3.heap.size]? = some (.cells #[.bool (decide (mx < 0)), .slice A3 (digs mx.natAbs).length c3, .int .i64 yx] 26 (0, 0)) by rw [hW]; have := heap_alloc_new w3 (.cells #[.bool (decide (mx < 0)), .slice A3 (digs mx.natAbs).length c3, .int .i64 yx] 26); simpa using this)
  have Gtx : w.heap.size ≤ w3.heap.size := by have := L3.out.1.size; omega
  have Nxtx : w.heap.size < w3.heap.size := by have := heap_lt Rx_3.out; omega
  clear hW hb
  refine (prec_any (q := Pp) Q0p.out Q1p.out HPp.out).mono ?_
  rintro e w5 ⟨rfl, rfl⟩
  go_wp2_with fail
  refine (prec_any (q := Pq) Q0q.out Q1q.out HPq.out).mono ?_
  rintro e w6 ⟨rfl, rfl⟩
  have ftx0 := row_c (i := 0) Rtx_4.out rfl
  have ztx0 := frozen_of_row _ _ 0 _ _ Rtx_4.out
  have ftx1 := row_c (i := 1) Rtx_4.out rfl
  have ztx1 := frozen_of_row _ _ 1 _ _ Rtx_4.out
  have ftx2 := row_c (i := 2) Rtx_4.out rfl
  have ztx2 := frozen_of_row _ _ 2 _ _ Rtx_4.out
  have xtx := heap_lt Rtx_4.out
  go_wp2_with fail
  refine (round_yes (m := mx) (x := yx) (M := M1) (E := E1) (up := up) (L4.out.get (A := A3) (c := c3) (xs := digs mx.natAbs) (by simp)) Dx.out Rx.out (t32_live HT.out L4.out) (p := max kp kq) KM.out HM2.out.1 HM2.out.2 HRu.out Iu.out).mono ?_
  rintro e w7 ⟨A7, c7, rfl, hd, hb⟩
  have L7 := Lib.hid ((L4.out.step hb).add hd)
  clear ftx0 ztx0 ftx1 ztx1 ftx2 ztx2 xtx
  have Rx_7 := Lib.hid (cells_of Rx_4.out hb)
  have Rtx_7 := Lib.hid (cells_of Rtx_4.out hb)
  clear hb hd
  go_wp2_with fail
  obtain ⟨w8, hW⟩ : ∃ W : World, W = (w7.alloc (.cells #[.bool (decide (M1 < 0)), .slice A7 (digs M1.natAbs).length c7, .int .i64 E1] 26)) := ⟨_, rfl⟩
  rw [← hW]
  have hb : Below w7.heap.size w7 w8 := by rw [hW]; exact ((Below.refl _ _).alloc (by simp <;> omega) _)
  have L8 := Lib.hid (L7.out.step hb)
  have Rx_8 := Lib.hid (cells_of Rx_7.out hb)
  have Rtx_8 := Lib.hid (cells_of Rtx_7.out hb)
  have Rbu_8 := Lib.hid (show w8.heap[w7.heap.size]? = some (.cells #[.bool (decide (M1 < 0)), .slice A7 (digs M1.natAbs).length c7, .int .i64 E1] 26 (0, 0)) by rw [hW]; have := heap_alloc_new w7 (.cells #[.bool (decide (M1 < 0)), .slice A7 (digs M1.natAbs).length c7, .int .i64 E1] 26); simpa using this)
  have Gbu : w.heap.size ≤ w7.heap.size := by have := L7.out.1.size; omega
  have Nxbu : w.heap.size < w7.heap.size := by have := heap_lt Rx_7.out; omega
  have Ntxbu : w3.heap.size < w7.heap.size := by have := heap_lt Rtx_7.out; omega
  clear hW hb
  refine (round_yes (m := M1) (x := E1) (M := M2) (E := E2) (up := up) (L8.out.get (A := A7) (c := c7) (xs := digs M1.natAbs) (by simp)) Du.out Ru.out (t32_live HT.out L8.out) (p := min kp kq) KN.out HN2.out.1 HN2.out.2 HRv.out Iv.out).mono ?_
  rintro e w9 ⟨A9, c9, rfl, hd, hb⟩
  have L9 := Lib.hid ((L8.out.step hb).add hd)
  have Rx_9 := Lib.hid (cells_of Rx_8.out hb)
  have Rtx_9 := Lib.hid (cells_of Rtx_8.out hb)
  have Rbu_9 := Lib.hid (cells_of Rbu_8.out hb)
  clear hb hd
  have ftx0 := row_c (i := 0) Rtx_9.out rfl
  have ztx0 := frozen_of_row _ _ 0 _ _ Rtx_9.out
  have ftx1 := row_c (i := 1) Rtx_9.out rfl
  have ztx1 := frozen_of_row _ _ 1 _ _ Rtx_9.out
  have ftx2 := row_c (i := 2) Rtx_9.out rfl
  have ztx2 := frozen_of_row _ _ 2 _ _ Rtx_9.out
  have xtx := heap_lt Rtx_9.out
  go_wp2_with fail
  obtain ⟨w10, hW⟩ : ∃ W : World, W = (w9.alloc (.cells #[.bool (decide (M2 < 0)), .slice A9 (digs M2.natAbs).length c9, .int .i64 E2] 26)) := ⟨_, rfl⟩
  rw [← hW]
  have hb : Below w9.heap.size w9 w10 := by rw [hW]; exact ((Below.refl _ _).alloc (by simp <;> omega) _)
  have L10 := Lib.hid (L9.out.step hb)
  have Rx_10 := Lib.hid (cells_of Rx_9.out hb)
  have Rtx_10 := Lib.hid (cells_of Rtx_9.out hb)
  have Rbu_10 := Lib.hid (cells_of Rbu_9.out hb)
  have Rbv_10 := Lib.hid (show w10.heap[w9.heap.size]? = some (.cells #[.bool (decide (M2 < 0)), .slice A9 (digs M2.natAbs).length c9, .int .i64 E2] 26 (0, 0)) by rw [hW]; have := heap_alloc_new w9 (.cells #[.bool (decide (M2 < 0)), .slice A9 (digs M2.natAbs).length c9, .int .i64 E2] 26); simpa using this)
  have Gbv : w.heap.size ≤ w9.heap.size := by have := L9.out.1.size; omega
  have Nxbv : w.heap.size < w9.heap.size := by have := heap_lt Rx_9.out; omega
  have Ntxbv : w3.heap.size < w9.heap.size := by have := heap_lt Rtx_9.out; omega
  have Nbubv : w7.heap.size < w9.heap.size := by have := heap_lt Rbu_9.out; omega
  clear hW hb
  clear ftx0 ztx0 ftx1 ztx1 ftx2 ztx2 xtx
  refine (round_yes (m := mx) (x := yx) (M := M2) (E := E2) (up := up) (L10.out.get (A := A3) (c := c3) (xs := digs mx.natAbs) (by simp)) Dx.out Rx.out (t32_live HT.out L10.out) (p := min kp kq) KN.out HN2.out.1 HN2.out.2 HRz.out Iz.out).mono ?_
  rintro e w11 ⟨A11, c11, rfl, hd, hb⟩
  have L11 := Lib.hid ((L10.out.step hb).add hd)
  have Rx_11 := Lib.hid (cells_of Rx_10.out hb)
  have Rtx_11 := Lib.hid (cells_of Rtx_10.out hb)
  have Rbu_11 := Lib.hid (cells_of Rbu_10.out hb)
  have Rbv_11 := Lib.hid (cells_of Rbv_10.out hb)
  clear hb hd
  have fbv0 := row_c (i := 0) Rbv_11.out rfl
  have zbv0 := frozen_of_row _ _ 0 _ _ Rbv_11.out
  have fbv1 := row_c (i := 1) Rbv_11.out rfl
  have zbv1 := frozen_of_row _ _ 1 _ _ Rbv_11.out
  have fbv2 := row_c (i := 2) Rbv_11.out rfl
  have zbv2 := frozen_of_row _ _ 2 _ _ Rbv_11.out
  have xbv := heap_lt Rbv_11.out
  go_wp2_with fail
  obtain ⟨w12, hW⟩ : ∃ W : World, W = (w11.alloc (.cells #[.bool (decide (M2 < 0)), .slice A11 (digs M2.natAbs).length c11, .int .i64 E2] 26)) := ⟨_, rfl⟩
  rw [← hW]
  have hb : Below w11.heap.size w11 w12 := by rw [hW]; exact ((Below.refl _ _).alloc (by simp <;> omega) _)
  have L12 := Lib.hid (L11.out.step hb)
  have Rx_12 := Lib.hid (cells_of Rx_11.out hb)
  have Rtx_12 := Lib.hid (cells_of Rtx_11.out hb)
  have Rbu_12 := Lib.hid (cells_of Rbu_11.out hb)
  have Rbv_12 := Lib.hid (cells_of Rbv_11.out hb)
  have Rbz_12 := Lib.hid (show w12.heap[w11.heap.size]? = some (.cells #[.bool (decide (M2 < 0)), .slice A11 (digs M2.natAbs).length c11, .int .i64 E2] 26 (0, 0)) by rw [hW]; have := heap_alloc_new w11 (.cells #[.bool (decide (M2 < 0)), .slice A11 (digs M2.natAbs).length c11, .int .i64 E2] 26); simpa using this)
  have Gbz : w.heap.size ≤ w11.heap.size := by have := L11.out.1.size; omega
  have Nxbz : w.heap.size < w11.heap.size := by have := heap_lt Rx_11.out; omega
  have Ntxbz : w3.heap.size < w11.heap.size := by have := heap_lt Rtx_11.out; omega
  have Nbubz : w7.heap.size < w11.heap.size := by have := heap_lt Rbu_11.out; omega
  have Nbvbz : w9.heap.size < w11.heap.size := by have := heap_lt Rbv_11.out; omega
  clear hW hb
  clear fbv0 zbv0 fbv1 zbv1 fbv2 zbv2 xbv
  refine (dsame_d (m := M2) (n := M2) (x := E2) (y := E2) (q := true) (L12.out.get (A := A9) (c := c9) (xs := digs M2.natAbs) (by simp)) (L12.out.get (A := A11) (c := c11) (xs := digs M2.natAbs) (by simp)) Dv.out (by simp)).mono ?_
  rintro e w13 ⟨rfl, hb⟩
  have L13 := Lib.hid (L12.out.step hb)
  have Rx_13 := Lib.hid (cells_of Rx_12.out hb)
  have Rtx_13 := Lib.hid (cells_of Rtx_12.out hb)
  have Rbu_13 := Lib.hid (cells_of Rbu_12.out hb)
  have Rbv_13 := Lib.hid (cells_of Rbv_12.out hb)
  have Rbz_13 := Lib.hid (cells_of Rbz_12.out hb)
  clear hb 
  go_wp2
  go_ret
  exact ⟨rfl, L13.out.1⟩
end Go.Proofs.YtnfafgpnnpapdaaDoor
end

section
/-
  DyadRoot.
-/
namespace Go.Proofs.YtnfafgpnnpapdaaDoor
open Go.RowKit
set_option linter.unusedSimpArgs false
set_option linter.unusedVariables false
set_option maxHeartbeats 8000000 in
set_option maxRecDepth 100000 in
theorem dyadRoot_n  (Ax : Option Addr) (cx : Nat) (sx : Bool) (xsx : List Nat) (ex : Int) (p : Int) (w : World)  (hx : Dg w Ax cx xsx) (lx : xsx.length ≤ 9223372036854775807) (ex0 : -9223372036854775808 ≤ ex) (ex1 : ex ≤ 9223372036854775807) (p0 : -9223372036854775808 ≤ p) (p1 : p ≤ 9223372036854775807) (hT : T32 w) (n0 : nm (sg sx (val (xsx.take 6))) < 0):
    Calls Tryd.prog 8 #[.agg #[.bool sx, .slice Ax xsx.length cx, .int .i64 ex], .int .i64 p] w fun e w' => e = .returned (.bool true) ∧ Below w.heap.size w w' := by
  obtain ⟨mx, hmx⟩ : ∃ m, nm (sg sx (val (xsx.take 6))) = m := ⟨_, rfl⟩
  obtain ⟨yx, hyx⟩ : ∃ m, nx (sg sx (val (xsx.take 6))) (tameE ex) = m := ⟨_, rfl⟩
  have tx : Tm mx yx := hmx ▸ hyx ▸ tame_tm hx.2.1
  have bx := tx.bd
  have HMx := Lib.hid hmx
  have HYx := Lib.hid hyx
  have LXx := Lib.hid lx
  have E0x := Lib.hid ex0
  have E1x := Lib.hid ex1
  have Rx := Lib.hid tx.rt
  have Ix := Lib.hid tx.inR
  have Dx := Lib.hid (inr_len tx.inR)
  obtain ⟨Pp, hPp⟩ : ∃ vv, precV p = vv := ⟨_, rfl⟩
  have hPbp := precV_bd p
  rw [hPp] at hPbp
  obtain ⟨kp, hkp⟩ : ∃ k : Nat, (k : Int) = Pp := ⟨Pp.toNat, by omega⟩
  have HPp := Lib.hid hPp
  have HKp := Lib.hid hkp
  have Q0p := Lib.hid p0
  have Q1p := Lib.hid p1
  have hk2p : 2 ≤ kp := by omega
  have hk4p : kp ≤ 400 := by omega
  have hk3p : kp ≤ 200 := by omega
  rw [hmx] at n0
  have DN := Lib.hid (show decide (mx < 0) = true by simp; omega)
  obtain ⟨Z, hZ⟩ : ∃ Z : Int, Z = 0 := ⟨_, rfl⟩
  have HZ := Lib.hid hZ
  have N0 := Lib.hid n0
  have PA := Lib.hid (show 2 ≤ Pp ∧ Pp ≤ 400 by omega)
  have HT := Lib.hid hT
  clear hT
  have L0 := Lib.hid ((live_start w).add hx)
  clear hx lx ex0 ex1 hmx hyx tx bx p0 p1 hPp hPbp hkp n0 hZ
  go_enter Tryd.func8, Tryd.ntmps8
  go_wp2_with fail
  obtain ⟨v1, hW⟩ : ∃ W : World, W = (w.alloc (.cells #[.bool sx, .slice Ax xsx.length cx, .int .i64 ex] 26)) := ⟨_, rfl⟩
  rw [← hW]
  have hb : Below w.heap.size w v1 := by rw [hW]; exact ((Below.refl _ _).alloc (by simp <;> omega) _)
  have L1 := Lib.hid (L0.out.step hb)
  have Rx_1 := Lib.hid (show v1.heap[w.heap.size]? = some (.cells #[.bool sx, .slice Ax xsx.length cx, .int .i64 ex] 26 (0, 0)) by rw [hW]; have := heap_alloc_new w (.cells #[.bool sx, .slice Ax xsx.length cx, .int .i64 ex] 26); simpa using this)
  have Gx : w.heap.size ≤ w.heap.size := by have := L0.out.1.size; omega
  clear hW hb
  refine (dexamples_any _ (t32_live HT.out L1.out)).mono ?_
  rintro e w2 ⟨rfl, hb⟩
  have L2 := Lib.hid (L1.out.step hb)
  have Rx_2 := Lib.hid (cells_of Rx_1.out hb)
  clear hb 
  have fx0 := row_c (i := 0) Rx_2.out rfl
  have zx0 := frozen_of_row _ _ 0 _ _ Rx_2.out
  have fx1 := row_c (i := 1) Rx_2.out rfl
  have zx1 := frozen_of_row _ _ 1 _ _ Rx_2.out
  have fx2 := row_c (i := 2) Rx_2.out rfl
  have zx2 := frozen_of_row _ _ 2 _ _ Rx_2.out
  have xx := heap_lt Rx_2.out
  go_wp2_with fail
  refine (tame_any (M := mx) (E := yx) (L2.out.get (A := Ax) (c := cx) (xs := xsx) (by simp)) (t32_live HT.out L2.out) LXx.out E0x.out E1x.out HMx.out HYx.out).mono ?_
  rintro e w3 ⟨A3, c3, rfl, hd, hb⟩
  have L3 := Lib.hid ((L2.out.step hb).add hd)
  clear fx0 zx0 fx1 zx1 fx2 zx2 xx
  have Rx_3 := Lib.hid (cells_of Rx_2.out hb)
  clear hb hd
  go_wp2_with fail
  obtain ⟨w4, hW⟩ : ∃ W : World, W = (w3.alloc (.cells #[.bool (decide (mx < 0)), .slice A3 (digs mx.natAbs).length c3, .int .i64 yx] 26)) := ⟨_, rfl⟩
  rw [← hW]
  have hb : Below w3.heap.size w3 w4 := by rw [hW]; exact ((Below.refl _ _).alloc (by simp <;> omega) _)
  have L4 := Lib.hid (L3.out.step hb)
  have Rx_4 := Lib.hid (cells_of Rx_3.out hb)
  have Rtx_4 := Lib.hid (show w4.heap[w3.heap.size]? = some (.cells #[.bool (decide (mx < 0)), .slice A3 (digs mx.natAbs).length c3, .int .i64 yx] 26 (0, 0)) by rw [hW]; have := heap_alloc_new w3 (.cells #[.bool (decide (mx < 0)), .slice A3 (digs mx.natAbs).length c3, .int .i64 yx] 26); simpa using this)
  have Gtx : w.heap.size ≤ w3.heap.size := by have := L3.out.1.size; omega
  have Nxtx : w.heap.size < w3.heap.size := by have := heap_lt Rx_3.out; omega
  clear hW hb
  refine (prec_any (q := Pp) Q0p.out Q1p.out HPp.out).mono ?_
  rintro e w5 ⟨rfl, rfl⟩
  have ftx0 := row_c (i := 0) Rtx_4.out rfl
  have ztx0 := frozen_of_row _ _ 0 _ _ Rtx_4.out
  have ftx1 := row_c (i := 1) Rtx_4.out rfl
  have ztx1 := frozen_of_row _ _ 1 _ _ Rtx_4.out
  have ftx2 := row_c (i := 2) Rtx_4.out rfl
  have ztx2 := frozen_of_row _ _ 2 _ _ Rtx_4.out
  have xtx := heap_lt Rtx_4.out
  go_wp2_with fail
  refine (sqrt_no A3 c3 mx yx Pp Z false _ (L4.out.get (A := A3) (c := c3) (xs := digs mx.natAbs) (by simp)) Dx.out Rx.out PA.out.1 PA.out.2 N0.out HZ.out).mono ?_
  rintro e w6 ⟨A6, c6, rfl, hd, hb⟩
  have L6 := Lib.hid ((L4.out.step hb).add hd)
  clear ftx0 ztx0 ftx1 ztx1 ftx2 ztx2 xtx
  have Rx_6 := Lib.hid (cells_of Rx_4.out hb)
  have Rtx_6 := Lib.hid (cells_of Rtx_4.out hb)
  clear hb hd
  have ftx0 := row_c (i := 0) Rtx_6.out rfl
  have ztx0 := frozen_of_row _ _ 0 _ _ Rtx_6.out
  have ftx1 := row_c (i := 1) Rtx_6.out rfl
  have ztx1 := frozen_of_row _ _ 1 _ _ Rtx_6.out
  have ftx2 := row_c (i := 2) Rtx_6.out rfl
  have ztx2 := frozen_of_row _ _ 2 _ _ Rtx_6.out
  have xtx := heap_lt Rtx_6.out
  go_wp2_with fail
  obtain ⟨w7, hW⟩ : ∃ W : World, W = (w6.alloc (.cells #[.bool (decide (Z < 0)), .slice A6 (digs Z.natAbs).length c6, .int .i64 Z] 26)) := ⟨_, rfl⟩
  rw [← hW]
  have hb : Below w6.heap.size w6 w7 := by rw [hW]; exact ((Below.refl _ _).alloc (by simp <;> omega) _)
  have L7 := Lib.hid (L6.out.step hb)
  have Rx_7 := Lib.hid (cells_of Rx_6.out hb)
  have Rtx_7 := Lib.hid (cells_of Rtx_6.out hb)
  have Rbu_7 := Lib.hid (show w7.heap[w6.heap.size]? = some (.cells #[.bool (decide (Z < 0)), .slice A6 (digs Z.natAbs).length c6, .int .i64 Z] 26 (0, 0)) by rw [hW]; have := heap_alloc_new w6 (.cells #[.bool (decide (Z < 0)), .slice A6 (digs Z.natAbs).length c6, .int .i64 Z] 26); simpa using this)
  have Gbu : w.heap.size ≤ w6.heap.size := by have := L6.out.1.size; omega
  have Nxbu : w.heap.size < w6.heap.size := by have := heap_lt Rx_6.out; omega
  have Ntxbu : w3.heap.size < w6.heap.size := by have := heap_lt Rtx_6.out; omega
  clear hW hb
  clear ftx0 ztx0 ftx1 ztx1 ftx2 ztx2 xtx
  refine (sqrt_no A3 c3 mx yx Pp Z true _ (L7.out.get (A := A3) (c := c3) (xs := digs mx.natAbs) (by simp)) Dx.out Rx.out PA.out.1 PA.out.2 N0.out HZ.out).mono ?_
  rintro e w8 ⟨A8, c8, rfl, hd, hb⟩
  have L8 := Lib.hid ((L7.out.step hb).add hd)
  have Rx_8 := Lib.hid (cells_of Rx_7.out hb)
  have Rtx_8 := Lib.hid (cells_of Rtx_7.out hb)
  have Rbu_8 := Lib.hid (cells_of Rbu_7.out hb)
  clear hb hd
  have dn := DN.out
  have ftx0 := row_c (i := 0) Rtx_8.out rfl
  have ztx0 := frozen_of_row _ _ 0 _ _ Rtx_8.out
  have ftx1 := row_c (i := 1) Rtx_8.out rfl
  have ztx1 := frozen_of_row _ _ 1 _ _ Rtx_8.out
  have ftx2 := row_c (i := 2) Rtx_8.out rfl
  have ztx2 := frozen_of_row _ _ 2 _ _ Rtx_8.out
  have xtx := heap_lt Rtx_8.out
  go_wp2
  go_ret
  exact ⟨rfl, (L8.out.step (below1 _ _)).1⟩

set_option maxHeartbeats 8000000 in
set_option maxRecDepth 100000 in
theorem dyadRoot_p  (Ax : Option Addr) (cx : Nat) (sx : Bool) (xsx : List Nat) (ex : Int) (p : Int) (w : World)  (hx : Dg w Ax cx xsx) (lx : xsx.length ≤ 9223372036854775807) (ex0 : -9223372036854775808 ≤ ex) (ex1 : ex ≤ 9223372036854775807) (p0 : -9223372036854775808 ≤ p) (p1 : p ≤ 9223372036854775807) (hT : T32 w) (n0 : 0 ≤ nm (sg sx (val (xsx.take 6)))):
    Calls Tryd.prog 8 #[.agg #[.bool sx, .slice Ax xsx.length cx, .int .i64 ex], .int .i64 p] w fun e w' => e = .returned (.bool true) ∧ Below w.heap.size w w' := by
  obtain ⟨mx, hmx⟩ : ∃ m, nm (sg sx (val (xsx.take 6))) = m := ⟨_, rfl⟩
  obtain ⟨yx, hyx⟩ : ∃ m, nx (sg sx (val (xsx.take 6))) (tameE ex) = m := ⟨_, rfl⟩
  have tx : Tm mx yx := hmx ▸ hyx ▸ tame_tm hx.2.1
  have bx := tx.bd
  have HMx := Lib.hid hmx
  have HYx := Lib.hid hyx
  have LXx := Lib.hid lx
  have E0x := Lib.hid ex0
  have E1x := Lib.hid ex1
  have Rx := Lib.hid tx.rt
  have Ix := Lib.hid tx.inR
  have Dx := Lib.hid (inr_len tx.inR)
  obtain ⟨Pp, hPp⟩ : ∃ vv, precV p = vv := ⟨_, rfl⟩
  have hPbp := precV_bd p
  rw [hPp] at hPbp
  obtain ⟨kp, hkp⟩ : ∃ k : Nat, (k : Int) = Pp := ⟨Pp.toNat, by omega⟩
  have HPp := Lib.hid hPp
  have HKp := Lib.hid hkp
  have Q0p := Lib.hid p0
  have Q1p := Lib.hid p1
  have hk2p : 2 ≤ kp := by omega
  have hk4p : kp ≤ 400 := by omega
  have hk3p : kp ≤ 200 := by omega
  rw [hmx] at n0
  have DN := Lib.hid (show decide (mx < 0) = false by simp; omega)
  obtain ⟨M1, E1, r1⟩ := sqrt_exists (m := mx) (x := yx) n0 (p := kp) (by omega) false
  obtain ⟨M2, E2, r2⟩ := sqrt_exists (m := mx) (x := yx) n0 (p := kp) (by omega) true
  have b1 := Bd.root (by omega) bx r1 (by omega) (by omega)
  have b2 := Bd.root (by omega) bx r2 (by omega) (by omega)
  obtain ⟨M3, E3, i3⟩ := isD_mul M1 E1 M1 E1
  obtain ⟨M4, E4, i4⟩ := isD_mul M2 E2 M2 E2
  obtain ⟨M5, E5, i5⟩ := isD_mul mx yx mx yx
  have b3 := b1.mul b1 i3
  have b4 := b2.mul b2 i4
  have b5 := bx.mul bx i5
  have r5 : RsOf (dv M5 E5) 200 false mx yx := by rw [i5.2]; exact RsOf.self (by omega) tx.1 n0 (by have := tx.2.1; omega)
  have v1 : dv M3 E3 ≤ dv mx yx := by rw [i3.2]; exact r1.le
  have v2 : dv mx yx ≤ dv M4 E4 := by rw [i4.2]; exact r2.ge
  obtain ⟨j2, hc2⟩ : ∃ c, cmpd (dv M3 E3) (dv mx yx) = c := ⟨_, rfl⟩
  obtain ⟨j3, hc3⟩ : ∃ c, cmpd (dv mx yx) (dv M4 E4) = c := ⟨_, rfl⟩
  have d2 : decide (j2 ≤ 0) = true := by rw [decide_eq_true_eq, ← hc2]; exact cmpd_le.2 v1
  have d3 : decide (j3 ≤ 0) = true := by rw [decide_eq_true_eq, ← hc3]; exact cmpd_le.2 v2
  have du : decide (M1 < 0) = false := by have := r1.nonneg; simp; omega
  have DU := Lib.hid du
  have HC2 := Lib.hid hc2
  have HC3 := Lib.hid hc3
  have HV1 := Lib.hid r1
  have HV2 := Lib.hid r2
  have HV5 := Lib.hid r5
  have H3 := Lib.hid i3
  have H4 := Lib.hid i4
  have H5 := Lib.hid i5
  have N0 := Lib.hid n0
  have MS := Lib.hid (show 0 ≤ M5 by have : 0 ≤ dv M5 E5 := by { rw [i5.2]; have := dv_nonneg (m := mx) (e := yx) |>.2 n0; exact Rat.mul_nonneg this this }; exact dv_nonneg.1 this)
  have Ru := Lib.hid (Bd.rt b1 (by omega) (by omega))
  have Iu := Lib.hid (Bd.inR b1 (by omega) (by omega))
  have Du := Lib.hid (inr_len Iu.out)
  have Rv := Lib.hid (Bd.rt b2 (by omega) (by omega))
  have Iv := Lib.hid (Bd.inR b2 (by omega) (by omega))
  have Dv := Lib.hid (inr_len Iv.out)
  have Ra := Lib.hid (Bd.rt b3 (by omega) (by omega))
  have Ia := Lib.hid (Bd.inR b3 (by omega) (by omega))
  have Da := Lib.hid (inr_len Ia.out)
  have Rb := Lib.hid (Bd.rt b4 (by omega) (by omega))
  have Ib := Lib.hid (Bd.inR b4 (by omega) (by omega))
  have Db := Lib.hid (inr_len Ib.out)
  have Rc := Lib.hid (Bd.rt b5 (by omega) (by omega))
  have Ic := Lib.hid (Bd.inR b5 (by omega) (by omega))
  have Dc := Lib.hid (inr_len Ic.out)
  have Rt := Lib.hid (Bd.rt bx (by omega) (by omega))
  have It := Lib.hid (Bd.inR bx (by omega) (by omega))
  have Dt := Lib.hid (inr_len It.out)
  have HT := Lib.hid hT
  clear hT
  have L0 := Lib.hid ((live_start w).add hx)
  clear hx lx ex0 ex1 hmx hyx tx bx p0 p1 hPp hPbp hkp n0 r1 r2 b1 b2 i3 i4 i5 b3 b4 b5 r5 v1 v2 hc2 hc3 du
  go_enter Tryd.func8, Tryd.ntmps8
  go_wp2_with fail
  obtain ⟨v1, hW⟩ : ∃ W : World, W = (w.alloc (.cells #[.bool sx, .slice Ax xsx.length cx, .int .i64 ex] 26)) := ⟨_, rfl⟩
  rw [← hW]
  have hb : Below w.heap.size w v1 := by rw [hW]; exact ((Below.refl _ _).alloc (by simp <;> omega) _)
  have L1 := Lib.hid (L0.out.step hb)
  have Rx_1 := Lib.hid (show v1.heap[w.heap.size]? = some (.cells #[.bool sx, .slice Ax xsx.length cx, .int .i64 ex] 26 (0, 0)) by rw [hW]; have := heap_alloc_new w (.cells #[.bool sx, .slice Ax xsx.length cx, .int .i64 ex] 26); simpa using this)
  have Gx : w.heap.size ≤ w.heap.size := by have := L0.out.1.size; omega
  clear hW hb
  refine (dexamples_any _ (t32_live HT.out L1.out)).mono ?_
  rintro e w2 ⟨rfl, hb⟩
  have L2 := Lib.hid (L1.out.step hb)
  have Rx_2 := Lib.hid (cells_of Rx_1.out hb)
  clear hb 
  have fx0 := row_c (i := 0) Rx_2.out rfl
  have zx0 := frozen_of_row _ _ 0 _ _ Rx_2.out
  have fx1 := row_c (i := 1) Rx_2.out rfl
  have zx1 := frozen_of_row _ _ 1 _ _ Rx_2.out
  have fx2 := row_c (i := 2) Rx_2.out rfl
  have zx2 := frozen_of_row _ _ 2 _ _ Rx_2.out
  have xx := heap_lt Rx_2.out
  go_wp2_with fail
  refine (tame_any (M := mx) (E := yx) (L2.out.get (A := Ax) (c := cx) (xs := xsx) (by simp)) (t32_live HT.out L2.out) LXx.out E0x.out E1x.out HMx.out HYx.out).mono ?_
  rintro e w3 ⟨A3, c3, rfl, hd, hb⟩
  have L3 := Lib.hid ((L2.out.step hb).add hd)
  clear fx0 zx0 fx1 zx1 fx2 zx2 xx
  have Rx_3 := Lib.hid (cells_of Rx_2.out hb)
  clear hb hd
  go_wp2_with fail
  obtain ⟨w4, hW⟩ : ∃ W : World, W = (w3.alloc (.cells #[.bool (decide (mx < 0)), .slice A3 (digs mx.natAbs).length c3, .int .i64 yx] 26)) := ⟨_, rfl⟩
  rw [← hW]
  have hb : Below w3.heap.size w3 w4 := by rw [hW]; exact ((Below.refl _ _).alloc (by simp <;> omega) _)
  have L4 := Lib.hid (L3.out.step hb)
  have Rx_4 := Lib.hid (cells_of Rx_3.out hb)
  have Rtx_4 := Lib.hid (show w4.heap[w3.heap.size]? = some (.cells #[.bool (decide (mx < 0)), .slice A3 (digs mx.natAbs).length c3, .int .i64 yx] 26 (0, 0)) by rw [hW]; have := heap_alloc_new w3 (.cells #[.bool (decide (mx < 0)), .slice A3 (digs mx.natAbs).length c3, .int .i64 yx] 26); simpa using this)
  have Gtx : w.heap.size ≤ w3.heap.size := by have := L3.out.1.size; omega
  have Nxtx : w.heap.size < w3.heap.size := by have := heap_lt Rx_3.out; omega
  clear hW hb
  refine (prec_any (q := Pp) Q0p.out Q1p.out HPp.out).mono ?_
  rintro e w5 ⟨rfl, rfl⟩
  have ftx0 := row_c (i := 0) Rtx_4.out rfl
  have ztx0 := frozen_of_row _ _ 0 _ _ Rtx_4.out
  have ftx1 := row_c (i := 1) Rtx_4.out rfl
  have ztx1 := frozen_of_row _ _ 1 _ _ Rtx_4.out
  have ftx2 := row_c (i := 2) Rtx_4.out rfl
  have ztx2 := frozen_of_row _ _ 2 _ _ Rtx_4.out
  have xtx := heap_lt Rtx_4.out
  go_wp2_with fail
  refine (dsqrt_yes (m := mx) (x := yx) (M := M1) (E := E1) (up := false) (L4.out.get (A := A3) (c := c3) (xs := digs mx.natAbs) (by simp)) Dx.out Rx.out (t32_live HT.out L4.out) (p := kp) HKp.out hk2p hk4p HV1.out Iu.out N0.out).mono ?_
  rintro e w6 ⟨A6, c6, rfl, hd, hb⟩
  have L6 := Lib.hid ((L4.out.step hb).add hd)
  clear ftx0 ztx0 ftx1 ztx1 ftx2 ztx2 xtx
  have Rx_6 := Lib.hid (cells_of Rx_4.out hb)
  have Rtx_6 := Lib.hid (cells_of Rtx_4.out hb)
  clear hb hd
  have ftx0 := row_c (i := 0) Rtx_6.out rfl
  have ztx0 := frozen_of_row _ _ 0 _ _ Rtx_6.out
  have ftx1 := row_c (i := 1) Rtx_6.out rfl
  have ztx1 := frozen_of_row _ _ 1 _ _ Rtx_6.out
  have ftx2 := row_c (i := 2) Rtx_6.out rfl
  have ztx2 := frozen_of_row _ _ 2 _ _ Rtx_6.out
  have xtx := heap_lt Rtx_6.out
  go_wp2_with fail
  obtain ⟨w7, hW⟩ : ∃ W : World, W = (w6.alloc (.cells #[.bool (decide (M1 < 0)), .slice A6 (digs M1.natAbs).length c6, .int .i64 E1] 26)) := ⟨_, rfl⟩
  rw [← hW]
  have hb : Below w6.heap.size w6 w7 := by rw [hW]; exact ((Below.refl _ _).alloc (by simp <;> omega) _)
  have L7 := Lib.hid (L6.out.step hb)
  have Rx_7 := Lib.hid (cells_of Rx_6.out hb)
  have Rtx_7 := Lib.hid (cells_of Rtx_6.out hb)
  have Rbu_7 := Lib.hid (show w7.heap[w6.heap.size]? = some (.cells #[.bool (decide (M1 < 0)), .slice A6 (digs M1.natAbs).length c6, .int .i64 E1] 26 (0, 0)) by rw [hW]; have := heap_alloc_new w6 (.cells #[.bool (decide (M1 < 0)), .slice A6 (digs M1.natAbs).length c6, .int .i64 E1] 26); simpa using this)
  have Gbu : w.heap.size ≤ w6.heap.size := by have := L6.out.1.size; omega
  have Nxbu : w.heap.size < w6.heap.size := by have := heap_lt Rx_6.out; omega
  have Ntxbu : w3.heap.size < w6.heap.size := by have := heap_lt Rtx_6.out; omega
  clear hW hb
  clear ftx0 ztx0 ftx1 ztx1 ftx2 ztx2 xtx
  refine (dsqrt_yes (m := mx) (x := yx) (M := M2) (E := E2) (up := true) (L7.out.get (A := A3) (c := c3) (xs := digs mx.natAbs) (by simp)) Dx.out Rx.out (t32_live HT.out L7.out) (p := kp) HKp.out hk2p hk4p HV2.out Iv.out N0.out).mono ?_
  rintro e w8 ⟨A8, c8, rfl, hd, hb⟩
  have L8 := Lib.hid ((L7.out.step hb).add hd)
  have Rx_8 := Lib.hid (cells_of Rx_7.out hb)
  have Rtx_8 := Lib.hid (cells_of Rtx_7.out hb)
  have Rbu_8 := Lib.hid (cells_of Rbu_7.out hb)
  clear hb hd
  have dn := DN.out
  have fbu0 := row_c (i := 0) Rbu_8.out rfl
  have zbu0 := frozen_of_row _ _ 0 _ _ Rbu_8.out
  have fbu1 := row_c (i := 1) Rbu_8.out rfl
  have zbu1 := frozen_of_row _ _ 1 _ _ Rbu_8.out
  have fbu2 := row_c (i := 2) Rbu_8.out rfl
  have zbu2 := frozen_of_row _ _ 2 _ _ Rbu_8.out
  have xbu := heap_lt Rbu_8.out
  have ftx0 := row_c (i := 0) Rtx_8.out rfl
  have ztx0 := frozen_of_row _ _ 0 _ _ Rtx_8.out
  have ftx1 := row_c (i := 1) Rtx_8.out rfl
  have ztx1 := frozen_of_row _ _ 1 _ _ Rtx_8.out
  have ftx2 := row_c (i := 2) Rtx_8.out rfl
  have ztx2 := frozen_of_row _ _ 2 _ _ Rtx_8.out
  have xtx := heap_lt Rtx_8.out
  go_wp2_with fail
  obtain ⟨w9, hW⟩ : ∃ W : World, W = (w8.alloc (.cells #[.bool (decide (M2 < 0)), .slice A8 (digs M2.natAbs).length c8, .int .i64 E2] 26)) := ⟨_, rfl⟩
  rw [← hW]
  have hb : Below w8.heap.size w8 w9 := by rw [hW]; exact ((Below.refl _ _).alloc (by simp <;> omega) _)
  have L9 := Lib.hid (L8.out.step hb)
  have Rx_9 := Lib.hid (cells_of Rx_8.out hb)
  have Rtx_9 := Lib.hid (cells_of Rtx_8.out hb)
  have Rbu_9 := Lib.hid (cells_of Rbu_8.out hb)
  have Rbv_9 := Lib.hid (show w9.heap[w8.heap.size]? = some (.cells #[.bool (decide (M2 < 0)), .slice A8 (digs M2.natAbs).length c8, .int .i64 E2] 26 (0, 0)) by rw [hW]; have := heap_alloc_new w8 (.cells #[.bool (decide (M2 < 0)), .slice A8 (digs M2.natAbs).length c8, .int .i64 E2] 26); simpa using this)
  have Gbv : w.heap.size ≤ w8.heap.size := by have := L8.out.1.size; omega
  have Nxbv : w.heap.size < w8.heap.size := by have := heap_lt Rx_8.out; omega
  have Ntxbv : w3.heap.size < w8.heap.size := by have := heap_lt Rtx_8.out; omega
  have Nbubv : w6.heap.size < w8.heap.size := by have := heap_lt Rbu_8.out; omega
  clear hW hb
  clear fbu0 zbu0 fbu1 zbu1 fbu2 zbu2 xbu ftx0 ztx0 ftx1 ztx1 ftx2 ztx2 xtx
  refine (dmul_yes (m := M1) (x := E1) (n := M1) (y := E1) (M := M3) (E := E3) (L9.out.get (A := A6) (c := c6) (xs := digs M1.natAbs) (by simp)) (L9.out.get (A := A6) (c := c6) (xs := digs M1.natAbs) (by simp)) Du.out Du.out Ru.out Ru.out (t32_live HT.out L9.out) H3.out Ia.out).mono ?_
  rintro e w10 ⟨A10, c10, rfl, hd, hb⟩
  have L10 := Lib.hid ((L9.out.step hb).add hd)
  have Rx_10 := Lib.hid (cells_of Rx_9.out hb)
  have Rtx_10 := Lib.hid (cells_of Rtx_9.out hb)
  have Rbu_10 := Lib.hid (cells_of Rbu_9.out hb)
  have Rbv_10 := Lib.hid (cells_of Rbv_9.out hb)
  clear hb hd
  clear dn
  have fbv0 := row_c (i := 0) Rbv_10.out rfl
  have zbv0 := frozen_of_row _ _ 0 _ _ Rbv_10.out
  have fbv1 := row_c (i := 1) Rbv_10.out rfl
  have zbv1 := frozen_of_row _ _ 1 _ _ Rbv_10.out
  have fbv2 := row_c (i := 2) Rbv_10.out rfl
  have zbv2 := frozen_of_row _ _ 2 _ _ Rbv_10.out
  have xbv := heap_lt Rbv_10.out
  go_wp2_with fail
  obtain ⟨w11, hW⟩ : ∃ W : World, W = (w10.alloc (.cells #[.bool (decide (M3 < 0)), .slice A10 (digs M3.natAbs).length c10, .int .i64 E3] 26)) := ⟨_, rfl⟩
  rw [← hW]
  have hb : Below w10.heap.size w10 w11 := by rw [hW]; exact ((Below.refl _ _).alloc (by simp <;> omega) _)
  have L11 := Lib.hid (L10.out.step hb)
  have Rx_11 := Lib.hid (cells_of Rx_10.out hb)
  have Rtx_11 := Lib.hid (cells_of Rtx_10.out hb)
  have Rbu_11 := Lib.hid (cells_of Rbu_10.out hb)
  have Rbv_11 := Lib.hid (cells_of Rbv_10.out hb)
  have Rba_11 := Lib.hid (show w11.heap[w10.heap.size]? = some (.cells #[.bool (decide (M3 < 0)), .slice A10 (digs M3.natAbs).length c10, .int .i64 E3] 26 (0, 0)) by rw [hW]; have := heap_alloc_new w10 (.cells #[.bool (decide (M3 < 0)), .slice A10 (digs M3.natAbs).length c10, .int .i64 E3] 26); simpa using this)
  have Gba : w.heap.size ≤ w10.heap.size := by have := L10.out.1.size; omega
  have Nxba : w.heap.size < w10.heap.size := by have := heap_lt Rx_10.out; omega
  have Ntxba : w3.heap.size < w10.heap.size := by have := heap_lt Rtx_10.out; omega
  have Nbuba : w6.heap.size < w10.heap.size := by have := heap_lt Rbu_10.out; omega
  have Nbvba : w8.heap.size < w10.heap.size := by have := heap_lt Rbv_10.out; omega
  clear hW hb
  clear fbv0 zbv0 fbv1 zbv1 fbv2 zbv2 xbv
  refine (dmul_yes (m := M2) (x := E2) (n := M2) (y := E2) (M := M4) (E := E4) (L11.out.get (A := A8) (c := c8) (xs := digs M2.natAbs) (by simp)) (L11.out.get (A := A8) (c := c8) (xs := digs M2.natAbs) (by simp)) Dv.out Dv.out Rv.out Rv.out (t32_live HT.out L11.out) H4.out Ib.out).mono ?_
  rintro e w12 ⟨A12, c12, rfl, hd, hb⟩
  have L12 := Lib.hid ((L11.out.step hb).add hd)
  have Rx_12 := Lib.hid (cells_of Rx_11.out hb)
  have Rtx_12 := Lib.hid (cells_of Rtx_11.out hb)
  have Rbu_12 := Lib.hid (cells_of Rbu_11.out hb)
  have Rbv_12 := Lib.hid (cells_of Rbv_11.out hb)
  have Rba_12 := Lib.hid (cells_of Rba_11.out hb)
  clear hb hd
  have ftx0 := row_c (i := 0) Rtx_12.out rfl
  have ztx0 := frozen_of_row _ _ 0 _ _ Rtx_12.out
  have ftx1 := row_c (i := 1) Rtx_12.out rfl
  have ztx1 := frozen_of_row _ _ 1 _ _ Rtx_12.out
  have ftx2 := row_c (i := 2) Rtx_12.out rfl
  have ztx2 := frozen_of_row _ _ 2 _ _ Rtx_12.out
  have xtx := heap_lt Rtx_12.out
  go_wp2_with fail
  obtain ⟨w13, hW⟩ : ∃ W : World, W = (w12.alloc (.cells #[.bool (decide (M4 < 0)), .slice A12 (digs M4.natAbs).length c12, .int .i64 E4] 26)) := ⟨_, rfl⟩
  rw [← hW]
  have hb : Below w12.heap.size w12 w13 := by rw [hW]; exact ((Below.refl _ _).alloc (by simp <;> omega) _)
  have L13 := Lib.hid (L12.out.step hb)
  have Rx_13 := Lib.hid (cells_of Rx_12.out hb)
  have Rtx_13 := Lib.hid (cells_of Rtx_12.out hb)
  have Rbu_13 := Lib.hid (cells_of Rbu_12.out hb)
  have Rbv_13 := Lib.hid (cells_of Rbv_12.out hb)
  have Rba_13 := Lib.hid (cells_of Rba_12.out hb)
  have Rbb_13 := Lib.hid (show w13.heap[w12.heap.size]? = some (.cells #[.bool (decide (M4 < 0)), .slice A12 (digs M4.natAbs).length c12, .int .i64 E4] 26 (0, 0)) by rw [hW]; have := heap_alloc_new w12 (.cells #[.bool (decide (M4 < 0)), .slice A12 (digs M4.natAbs).length c12, .int .i64 E4] 26); simpa using this)
  have Gbb : w.heap.size ≤ w12.heap.size := by have := L12.out.1.size; omega
  have Nxbb : w.heap.size < w12.heap.size := by have := heap_lt Rx_12.out; omega
  have Ntxbb : w3.heap.size < w12.heap.size := by have := heap_lt Rtx_12.out; omega
  have Nbubb : w6.heap.size < w12.heap.size := by have := heap_lt Rbu_12.out; omega
  have Nbvbb : w8.heap.size < w12.heap.size := by have := heap_lt Rbv_12.out; omega
  have Nbabb : w10.heap.size < w12.heap.size := by have := heap_lt Rba_12.out; omega
  clear hW hb
  clear ftx0 ztx0 ftx1 ztx1 ftx2 ztx2 xtx
  refine (dmul_yes (m := mx) (x := yx) (n := mx) (y := yx) (M := M5) (E := E5) (L13.out.get (A := A3) (c := c3) (xs := digs mx.natAbs) (by simp)) (L13.out.get (A := A3) (c := c3) (xs := digs mx.natAbs) (by simp)) Dx.out Dx.out Rx.out Rx.out (t32_live HT.out L13.out) H5.out Ic.out).mono ?_
  rintro e w14 ⟨A14, c14, rfl, hd, hb⟩
  have L14 := Lib.hid ((L13.out.step hb).add hd)
  have Rx_14 := Lib.hid (cells_of Rx_13.out hb)
  have Rtx_14 := Lib.hid (cells_of Rtx_13.out hb)
  have Rbu_14 := Lib.hid (cells_of Rbu_13.out hb)
  have Rbv_14 := Lib.hid (cells_of Rbv_13.out hb)
  have Rba_14 := Lib.hid (cells_of Rba_13.out hb)
  have Rbb_14 := Lib.hid (cells_of Rbb_13.out hb)
  clear hb hd
  go_wp2_with fail
  obtain ⟨w15, hW⟩ : ∃ W : World, W = (w14.alloc (.cells #[.bool (decide (M5 < 0)), .slice A14 (digs M5.natAbs).length c14, .int .i64 E5] 26)) := ⟨_, rfl⟩
  rw [← hW]
  have hb : Below w14.heap.size w14 w15 := by rw [hW]; exact ((Below.refl _ _).alloc (by simp <;> omega) _)
  have L15 := Lib.hid (L14.out.step hb)
  have Rx_15 := Lib.hid (cells_of Rx_14.out hb)
  have Rtx_15 := Lib.hid (cells_of Rtx_14.out hb)
  have Rbu_15 := Lib.hid (cells_of Rbu_14.out hb)
  have Rbv_15 := Lib.hid (cells_of Rbv_14.out hb)
  have Rba_15 := Lib.hid (cells_of Rba_14.out hb)
  have Rbb_15 := Lib.hid (cells_of Rbb_14.out hb)
  have Rbc_15 := Lib.hid (show w15.heap[w14.heap.size]? = some (.cells #[.bool (decide (M5 < 0)), .slice A14 (digs M5.natAbs).length c14, .int .i64 E5] 26 (0, 0)) by rw [hW]; have := heap_alloc_new w14 (.cells #[.bool (decide (M5 < 0)), .slice A14 (digs M5.natAbs).length c14, .int .i64 E5] 26); simpa using this)
  have Gbc : w.heap.size ≤ w14.heap.size := by have := L14.out.1.size; omega
  have Nxbc : w.heap.size < w14.heap.size := by have := heap_lt Rx_14.out; omega
  have Ntxbc : w3.heap.size < w14.heap.size := by have := heap_lt Rtx_14.out; omega
  have Nbubc : w6.heap.size < w14.heap.size := by have := heap_lt Rbu_14.out; omega
  have Nbvbc : w8.heap.size < w14.heap.size := by have := heap_lt Rbv_14.out; omega
  have Nbabc : w10.heap.size < w14.heap.size := by have := heap_lt Rba_14.out; omega
  have Nbbbc : w12.heap.size < w14.heap.size := by have := heap_lt Rbb_14.out; omega
  clear hW hb
  refine (dsqrt_yes (m := M5) (x := E5) (M := mx) (E := yx) (up := false) (L15.out.get (A := A14) (c := c14) (xs := digs M5.natAbs) (by simp)) Dc.out Rc.out (t32_live HT.out L15.out) (p := 200) (by omega) (by omega) (by omega) HV5.out It.out MS.out).mono ?_
  rintro e w16 ⟨A16, c16, rfl, hd, hb⟩
  have L16 := Lib.hid ((L15.out.step hb).add hd)
  have Rx_16 := Lib.hid (cells_of Rx_15.out hb)
  have Rtx_16 := Lib.hid (cells_of Rtx_15.out hb)
  have Rbu_16 := Lib.hid (cells_of Rbu_15.out hb)
  have Rbv_16 := Lib.hid (cells_of Rbv_15.out hb)
  have Rba_16 := Lib.hid (cells_of Rba_15.out hb)
  have Rbb_16 := Lib.hid (cells_of Rbb_15.out hb)
  have Rbc_16 := Lib.hid (cells_of Rbc_15.out hb)
  clear hb hd
  have ftx0 := row_c (i := 0) Rtx_16.out rfl
  have ztx0 := frozen_of_row _ _ 0 _ _ Rtx_16.out
  have ftx1 := row_c (i := 1) Rtx_16.out rfl
  have ztx1 := frozen_of_row _ _ 1 _ _ Rtx_16.out
  have ftx2 := row_c (i := 2) Rtx_16.out rfl
  have ztx2 := frozen_of_row _ _ 2 _ _ Rtx_16.out
  have xtx := heap_lt Rtx_16.out
  go_wp2_with fail
  obtain ⟨w17, hW⟩ : ∃ W : World, W = (w16.alloc (.cells #[.bool (decide (mx < 0)), .slice A16 (digs mx.natAbs).length c16, .int .i64 yx] 26)) := ⟨_, rfl⟩
  rw [← hW]
  have hb : Below w16.heap.size w16 w17 := by rw [hW]; exact ((Below.refl _ _).alloc (by simp <;> omega) _)
  have L17 := Lib.hid (L16.out.step hb)
  have Rx_17 := Lib.hid (cells_of Rx_16.out hb)
  have Rtx_17 := Lib.hid (cells_of Rtx_16.out hb)
  have Rbu_17 := Lib.hid (cells_of Rbu_16.out hb)
  have Rbv_17 := Lib.hid (cells_of Rbv_16.out hb)
  have Rba_17 := Lib.hid (cells_of Rba_16.out hb)
  have Rbb_17 := Lib.hid (cells_of Rbb_16.out hb)
  have Rbc_17 := Lib.hid (cells_of Rbc_16.out hb)
  have Rbt_17 := Lib.hid (show w17.heap[w16.heap.size]? = some (.cells #[.bool (decide (mx < 0)), .slice A16 (digs mx.natAbs).length c16, .int .i64 yx] 26 (0, 0)) by rw [hW]; have := heap_alloc_new w16 (.cells #[.bool (decide (mx < 0)), .slice A16 (digs mx.natAbs).length c16, .int .i64 yx] 26); simpa using this)
  have Gbt : w.heap.size ≤ w16.heap.size := by have := L16.out.1.size; omega
  have Nxbt : w.heap.size < w16.heap.size := by have := heap_lt Rx_16.out; omega
  have Ntxbt : w3.heap.size < w16.heap.size := by have := heap_lt Rtx_16.out; omega
  have Nbubt : w6.heap.size < w16.heap.size := by have := heap_lt Rbu_16.out; omega
  have Nbvbt : w8.heap.size < w16.heap.size := by have := heap_lt Rbv_16.out; omega
  have Nbabt : w10.heap.size < w16.heap.size := by have := heap_lt Rba_16.out; omega
  have Nbbbt : w12.heap.size < w16.heap.size := by have := heap_lt Rbb_16.out; omega
  have Nbcbt : w14.heap.size < w16.heap.size := by have := heap_lt Rbc_16.out; omega
  clear hW hb
  clear ftx0 ztx0 ftx1 ztx1 ftx2 ztx2 xtx
  refine (dsame_d (m := mx) (n := mx) (x := yx) (y := yx) (q := true) (L17.out.get (A := A16) (c := c16) (xs := digs mx.natAbs) (by simp)) (L17.out.get (A := A3) (c := c3) (xs := digs mx.natAbs) (by simp)) Dt.out (by simp)).mono ?_
  rintro e w18 ⟨rfl, hb⟩
  have L18 := Lib.hid (L17.out.step hb)
  have Rx_18 := Lib.hid (cells_of Rx_17.out hb)
  have Rtx_18 := Lib.hid (cells_of Rtx_17.out hb)
  have Rbu_18 := Lib.hid (cells_of Rbu_17.out hb)
  have Rbv_18 := Lib.hid (cells_of Rbv_17.out hb)
  have Rba_18 := Lib.hid (cells_of Rba_17.out hb)
  have Rbb_18 := Lib.hid (cells_of Rbb_17.out hb)
  have Rbc_18 := Lib.hid (cells_of Rbc_17.out hb)
  have Rbt_18 := Lib.hid (cells_of Rbt_17.out hb)
  clear hb 
  have fba0 := row_c (i := 0) Rba_18.out rfl
  have zba0 := frozen_of_row _ _ 0 _ _ Rba_18.out
  have fba1 := row_c (i := 1) Rba_18.out rfl
  have zba1 := frozen_of_row _ _ 1 _ _ Rba_18.out
  have fba2 := row_c (i := 2) Rba_18.out rfl
  have zba2 := frozen_of_row _ _ 2 _ _ Rba_18.out
  have xba := heap_lt Rba_18.out
  have ftx0 := row_c (i := 0) Rtx_18.out rfl
  have ztx0 := frozen_of_row _ _ 0 _ _ Rtx_18.out
  have ftx1 := row_c (i := 1) Rtx_18.out rfl
  have ztx1 := frozen_of_row _ _ 1 _ _ Rtx_18.out
  have ftx2 := row_c (i := 2) Rtx_18.out rfl
  have ztx2 := frozen_of_row _ _ 2 _ _ Rtx_18.out
  have xtx := heap_lt Rtx_18.out
  go_wp2_with fail
  refine (dcmp_any (m := M3) (n := mx) (x := E3) (y := yx) (q := j2) (L18.out.get (A := A10) (c := c10) (xs := digs M3.natAbs) (by simp)) (L18.out.get (A := A3) (c := c3) (xs := digs mx.natAbs) (by simp)) (Nat.le_trans Da.out (by omega)) (Nat.le_trans Dx.out (by omega)) Ra.out Rx.out HC2.out).mono ?_
  rintro e w19 ⟨rfl, hb⟩
  have L19 := Lib.hid (L18.out.step hb)
  clear fba0 zba0 fba1 zba1 fba2 zba2 xba ftx0 ztx0 ftx1 ztx1 ftx2 ztx2 xtx
  have Rx_19 := Lib.hid (cells_of Rx_18.out hb)
  have Rtx_19 := Lib.hid (cells_of Rtx_18.out hb)
  have Rbu_19 := Lib.hid (cells_of Rbu_18.out hb)
  have Rbv_19 := Lib.hid (cells_of Rbv_18.out hb)
  have Rba_19 := Lib.hid (cells_of Rba_18.out hb)
  have Rbb_19 := Lib.hid (cells_of Rbb_18.out hb)
  have Rbc_19 := Lib.hid (cells_of Rbc_18.out hb)
  have Rbt_19 := Lib.hid (cells_of Rbt_18.out hb)
  clear hb 
  have ftx0 := row_c (i := 0) Rtx_19.out rfl
  have ztx0 := frozen_of_row _ _ 0 _ _ Rtx_19.out
  have ftx1 := row_c (i := 1) Rtx_19.out rfl
  have ztx1 := frozen_of_row _ _ 1 _ _ Rtx_19.out
  have ftx2 := row_c (i := 2) Rtx_19.out rfl
  have ztx2 := frozen_of_row _ _ 2 _ _ Rtx_19.out
  have xtx := heap_lt Rtx_19.out
  have fbb0 := row_c (i := 0) Rbb_19.out rfl
  have zbb0 := frozen_of_row _ _ 0 _ _ Rbb_19.out
  have fbb1 := row_c (i := 1) Rbb_19.out rfl
  have zbb1 := frozen_of_row _ _ 1 _ _ Rbb_19.out
  have fbb2 := row_c (i := 2) Rbb_19.out rfl
  have zbb2 := frozen_of_row _ _ 2 _ _ Rbb_19.out
  have xbb := heap_lt Rbb_19.out
  go_wp2_with fail
  refine (dcmp_any (m := mx) (n := M4) (x := yx) (y := E4) (q := j3) (L19.out.get (A := A3) (c := c3) (xs := digs mx.natAbs) (by simp)) (L19.out.get (A := A12) (c := c12) (xs := digs M4.natAbs) (by simp)) (Nat.le_trans Dx.out (by omega)) (Nat.le_trans Db.out (by omega)) Rx.out Rb.out HC3.out).mono ?_
  rintro e w20 ⟨rfl, hb⟩
  have L20 := Lib.hid (L19.out.step hb)
  clear ftx0 ztx0 ftx1 ztx1 ftx2 ztx2 xtx fbb0 zbb0 fbb1 zbb1 fbb2 zbb2 xbb
  have Rx_20 := Lib.hid (cells_of Rx_19.out hb)
  have Rtx_20 := Lib.hid (cells_of Rtx_19.out hb)
  have Rbu_20 := Lib.hid (cells_of Rbu_19.out hb)
  have Rbv_20 := Lib.hid (cells_of Rbv_19.out hb)
  have Rba_20 := Lib.hid (cells_of Rba_19.out hb)
  have Rbb_20 := Lib.hid (cells_of Rbb_19.out hb)
  have Rbc_20 := Lib.hid (cells_of Rbc_19.out hb)
  have Rbt_20 := Lib.hid (cells_of Rbt_19.out hb)
  clear hb 
  have du := DU.out
  have fbu0 := row_c (i := 0) Rbu_20.out rfl
  have zbu0 := frozen_of_row _ _ 0 _ _ Rbu_20.out
  have fbu1 := row_c (i := 1) Rbu_20.out rfl
  have zbu1 := frozen_of_row _ _ 1 _ _ Rbu_20.out
  have fbu2 := row_c (i := 2) Rbu_20.out rfl
  have zbu2 := frozen_of_row _ _ 2 _ _ Rbu_20.out
  have xbu := heap_lt Rbu_20.out
  go_wp2
  go_ret
  exact ⟨rfl, L20.out.1⟩

theorem dyadRoot_any  (Ax : Option Addr) (cx : Nat) (sx : Bool) (xsx : List Nat) (ex : Int) (p : Int) (w : World)  (hx : Dg w Ax cx xsx) (lx : xsx.length ≤ 9223372036854775807) (ex0 : -9223372036854775808 ≤ ex) (ex1 : ex ≤ 9223372036854775807) (p0 : -9223372036854775808 ≤ p) (p1 : p ≤ 9223372036854775807) (hT : T32 w) :
    Calls Tryd.prog 8 #[.agg #[.bool sx, .slice Ax xsx.length cx, .int .i64 ex], .int .i64 p] w fun e w' => e = .returned (.bool true) ∧ Below w.heap.size w w' := by
  by_cases h : nm (sg sx (val (xsx.take 6))) < 0
  · exact dyadRoot_n Ax cx sx xsx ex p w hx lx ex0 ex1 p0 p1 hT h
  · exact dyadRoot_p Ax cx sx xsx ex p w hx lx ex0 ex1 p0 p1 hT (by omega)
end Go.Proofs.YtnfafgpnnpapdaaDoor
end

section
/-
  DyadRoot, FOR EVERY ARGUMENT: the law returns true, and each argument reads behind the call as it read ahead of it. THE TIED CARD.
-/
namespace Go.Proofs.YtnfafgpnnpapdaaDoor.dyadRoot
open Go Go.ChangeShapes Go.WideShapes Go.ChangeAt Go.RowKit
set_option linter.unusedVariables false
/-- The door's own heap meets the condition. -/
theorem door_met (os : Os) (args : Array Value) : laidMetH Tryd.prog Rows.dyadRootRow.laid ((World.doorLaid Tryd.prog 400 os).forCall (fun _ _ => 0) ⟨#[], args, []⟩).memory :=
  laidMetH_of_parts3 (fuel := 8) (laidMet_of_run' 8 (by kernel_rfl) (by kernel_rfl)) (by kernel_rfl) (by kernel_rfl)
set_option maxRecDepth 100000 in
theorem lifted (os : Os) (started : os.Started) (H : Type) (enc : TypeId × Value → H) :
    ReturnsInHanded {} Tryd.checked os 8 .any (fun w args => (Rows.dyadRootSpec.pre enc Tryd.prog Tryd.f8 [] false w args ∧ laidMetH Tryd.prog Rows.dyadRootRow.laid w) ∧ sizedMet enc Tryd.prog Tryd.f8 (OpenSpec.ofChange Rows.dyadRootSpec) false w args)
      (Rows.dyadRootSpec.post enc Tryd.prog Tryd.f8 false true false false) := by
  refine returnsInHanded_of_change_and (C := Tryd.checked) (X := fun w _ => laidMetH Tryd.prog Rows.dyadRootRow.laid w) (fun _ _ _ hh h => h.of_heap hh) own started (by kernel_rfl) Tryd.func8
    (ChangeSpec.witness_shaped (enc := enc) (C := Tryd.checked) (os := os) (X := fun w _ => laidMetH Tryd.prog Rows.dyadRootRow.laid w) false (World.doorLaid Tryd.prog 400 os) #[.agg #[.bool false, .slice none 0 0, .int .i64 0], .int .i64 0] 8 rfl (World.shaped_of_RefB (by kernel_rfl) (by kernel_rfl)) (by kernel_rfl) (by kernel_rfl) (by kernel_rfl) (door_met os _)) ?_
  intro W base args ds gs before hval0 hW _ _ hL _
  rw [MakeChecks.laidMetH_plain _ _ _ (by kernel_rfl)] at hL
  have htab := t32_laid hL
  clear hL
  have hval : ∀ (j : Nat) t v, Tryd.f8.params[j]? = some t → args[j]? = some v → Value.okWide Tryd.prog W .any base t v := hval0
  have hW' := hW
  obtain ⟨p, q, hA0, hV, rfl, hfz, hnd⟩ := hW
  have hA : DataW.TrodAll enc Tryd.prog W 0 (fun _ => true) true Tryd.f8.params.toList args.toList ds p := hA0
  rw [Tryd.params8] at hA hval
  obtain ⟨v0, vs0, d0, ds0, p0, q0, hargs, rfl, rfl, h0, r0⟩ := trodAll_cons hA
  obtain ⟨v1, vs1, d1, ds1, p1, q1, rfl, rfl, rfl, h1, r1⟩ := trodAll_cons r0
  obtain ⟨rfl, rfl, rfl⟩ := trodAll_nil r1
  obtain rfl : args = #[v0, v1] := by cases args; simp_all
  obtain ⟨rfl, rfl⟩ := trodVars_none hV
  obtain ⟨s0, A0, c0, xs0, x0, rfl, g0, l0, x00, x01⟩ := open_d (hval 0 _ _ rfl rfl) h0
  obtain ⟨a1, rfl, e1, e1', g1⟩ := open_int Tryd.underlying3 (hval 1 _ _ rfl rfl) h1
  clear hA0
  simp only [List.append_nil] at hW'
  refine (dyadRoot_any A0 c0 s0 xs0 x0 a1 W g0 l0 x00 x01 (i64_lo g1) (i64_hi g1) htab).mono fun e W' ⟨he, hb⟩ => ?_
  subst he
  have hlt := hW'.lt
  refine ⟨_, rfl, law_post (tb := 4) hW' hb rfl rfl Tryd.underlying4 rfl rfl fun sp hsp => ?_⟩
  have hr := trodAll_cons_mk (again (by kernel_rfl) (of_decide_eq_true (by kernel_rfl)) h0 hb (fun x hx => hlt x (by simp [hx])) sp (fun x hx => hsp x (by simp [hx]))) (trodAll_cons_mk (again (by kernel_rfl) (of_decide_eq_true (by kernel_rfl)) h1 hb (fun x hx => hlt x (by simp [hx])) sp (fun x hx => hsp x (by simp [hx]))) trodAll_mk0)
  simp only [List.append_nil] at hr
  exact hr
theorem row_holds : Rows.DyadRootSaid :=
  OpenClaim.holds_of_wide 8 Tryd.f8 rfl rfl rfl rfl rfl rfl rfl ⟨rfl, rfl, rfl, rfl, rfl⟩ rfl rfl rfl rfl rfl (by kernel_rfl) Tryd.func8 (by kernel_rfl)
    (of_decide_eq_true (by kernel_rfl)) (by unfold Func.isWrapper; first | (rw [if_pos (by decide +kernel)]; kernel_rfl) | (rw [if_neg (by decide +kernel)]; exact ⟨rfl, rfl⟩))
    (fun os started H enc _ => lifted os started H enc)
/-- THE TIED CARD. -/
theorem proved : Rows.DyadRootCardSaid :=
  Claim7.holds_tied_plain_at .later [] [.data] true (true, "7c66bf396cc85edd26b252ab6783573fce3f6eda62d94517dafae4d8f0360cd0") false
    row_holds (fun _ h => by cases h) (by kernel_rfl) (fun _ h => by cases h) dyadRoot_row_tie rfl ⟨rfl, rfl⟩ (by kernel_rfl) rfl
    (fun f fn hf hfn => by
      obtain rfl : f = 8 := Option.some.inj ((show Tryd.prog.funcNamed Rows.dyadRootRow.func = some 8 by kernel_rfl).symm.trans hf) |>.symm
      obtain rfl : fn = Tryd.f8 := (Option.some.inj (Tryd.func8.symm.trans hfn)).symm
      exact ⟨by kernel_rfl, fun j t ht => by
        have hall : (Tryd.f8.params.toList.all fun u => !Tryd.prog.wantsStandIn u) = true := by kernel_rfl
        exact (show Tryd.prog.wantsStandIn t = false by simpa using List.all_eq_true.1 hall t (Array.mem_toList_iff.2 (Array.mem_of_getElem? ht)))⟩)
    (by kernel_rfl)
end Go.Proofs.YtnfafgpnnpapdaaDoor.dyadRoot
end
