import Derived.Test.YtnfafgpnnpapdaaDoorMB8
import Derived.Test.YtnfafgpnnpapdaaDoorMB9
import Derived.Test.YtnfafgpnnpapdaaDoorMB5
import Derived.Test.YtnfafgpnnpapdaaDoorTie
import Derived.Test.YtnfafgpnnpapdaaDoorCards
import Derived.SevenTiedAt
import Derived.OpenShut
import Derived.ChangeMaps5
section
/-
  DyadSteps.
-/
namespace Go.Proofs.YtnfafgpnnpapdaaDoor
open Go.RowKit
set_option linter.unusedSimpArgs false
set_option linter.unusedVariables false
theorem Tm.bd {M E : Int} (h : Tm M E) : Bd (-300) 492 M E := by
  refine ⟨h.1, ?_⟩
  by_cases h0 : M = 0
  · exact .inl h0
  · exact .inr (h.2.2 h0)
theorem Bd.rt {L H M E : Int} (h : Bd L H M E) (hL : -65536 ≤ L) (hH : H ≤ 65536) : Rt M E := by
  refine ⟨h.1, ?_⟩
  rcases h.2 with h0 | ⟨a, b⟩
  · have := nf_zero h.1 h0; omega
  · omega

set_option maxHeartbeats 8000000 in
set_option maxRecDepth 100000 in
theorem dyadSteps_any  (Ax : Option Addr) (cx : Nat) (sx : Bool) (xsx : List Nat) (ex : Int) (p : Int) (q : Int) (up : Bool) (w : World)  (hx : Dg w Ax cx xsx) (lx : xsx.length ≤ 9223372036854775807) (ex0 : -9223372036854775808 ≤ ex) (ex1 : ex ≤ 9223372036854775807) (p0 : -9223372036854775808 ≤ p) (p1 : p ≤ 9223372036854775807) (q0 : -9223372036854775808 ≤ q) (q1 : q ≤ 9223372036854775807) (hT : T32 w):
    Calls Tryd.prog 14 #[.agg #[.bool sx, .slice Ax xsx.length cx, .int .i64 ex], .int .i64 p, .int .i64 q, .bool up] w fun e w' => e = .returned (.bool true) ∧ Below w.heap.size w w' := by
  obtain ⟨mx, hmx⟩ : ∃ m, nm (sg sx (val (xsx.take 6))) = m := ⟨_, rfl⟩
  obtain ⟨yx, hyx⟩ : ∃ m, nx (sg sx (val (xsx.take 6))) (tameE ex) = m := ⟨_, rfl⟩
  have tx : Tm mx yx := hmx ▸ hyx ▸ tame_tm hx.2.1
  have bx := tx.bd
  have HMx := Lib.hid hmx
  have HYx := Lib.hid hyx
  have LXx := Lib.hid lx
  have E0x := Lib.hid ex0
  have E1x := Lib.hid ex1
  have Rx := Lib.hid tx.rt
  have Ix := Lib.hid tx.inR
  have Dx := Lib.hid (inr_len tx.inR)
  obtain ⟨Pp, hPp⟩ : ∃ vv, precV p = vv := ⟨_, rfl⟩
  have hPbp := precV_bd p
  rw [hPp] at hPbp
  obtain ⟨kp, hkp⟩ : ∃ k : Nat, (k : Int) = Pp := ⟨Pp.toNat, by omega⟩
  have HPp := Lib.hid hPp
  have HKp := Lib.hid hkp
  have Q0p := Lib.hid p0
  have Q1p := Lib.hid p1
  have hk2p : 2 ≤ kp := by omega
  have hk4p : kp ≤ 400 := by omega
  have hk3p : kp ≤ 200 := by omega
  obtain ⟨Pq, hPq⟩ : ∃ vv, precV q = vv := ⟨_, rfl⟩
  have hPbq := precV_bd q
  rw [hPq] at hPbq
  obtain ⟨kq, hkq⟩ : ∃ k : Nat, (k : Int) = Pq := ⟨Pq.toNat, by omega⟩
  have HPq := Lib.hid hPq
  have HKq := Lib.hid hkq
  have Q0q := Lib.hid q0
  have Q1q := Lib.hid q1
  have hk2q : 2 ≤ kq := by omega
  have hk4q : kq ≤ 400 := by omega
  have hk3q : kq ≤ 200 := by omega
  obtain ⟨M1, E1, r1⟩ := rd_exists mx yx tx.1 (max kp kq) up (by omega)
  have b1 := bx.round (by omega) r1
  obtain ⟨M2, E2, r2⟩ := rd_exists M1 E1 b1.1 (min kp kq) up (by omega)
  have b2 := b1.round (by omega) r2
  have r3 := r1.steps (by omega) (by omega) r2
  have Ru := Lib.hid (Bd.rt b1 (by omega) (by omega))
  have Iu := Lib.hid (Bd.inR b1 (by omega) (by omega))
  have Du := Lib.hid (inr_len Iu.out)
  have Rv := Lib.hid (Bd.rt b2 (by omega) (by omega))
  have Iv := Lib.hid (Bd.inR b2 (by omega) (by omega))
  have Dv := Lib.hid (inr_len Iv.out)
  have Rz := Lib.hid (Bd.rt b2 (by omega) (by omega))
  have Iz := Lib.hid (Bd.inR b2 (by omega) (by omega))
  have Dz := Lib.hid (inr_len Iz.out)
  have HRu := Lib.hid r1
  have HRv := Lib.hid r2
  have HRz := Lib.hid r3
  obtain ⟨Pm, hPm⟩ : ∃ k : Int, max Pp Pq = k := ⟨_, rfl⟩
  obtain ⟨Pn, hPn⟩ : ∃ k : Int, min Pp Pq = k := ⟨_, rfl⟩
  have KM := Lib.hid (show ((max kp kq : Nat) : Int) = Pm by omega)
  have KN := Lib.hid (show ((min kp kq : Nat) : Int) = Pn by omega)
  have hm2 : 2 ≤ max kp kq ∧ max kp kq ≤ 400 := by omega
  have hn2 : 2 ≤ min kp kq ∧ min kp kq ≤ 400 := by omega
  have HM2 := Lib.hid hm2
  have HN2 := Lib.hid hn2
  have HT := Lib.hid hT
  clear hT
  have L0 := Lib.hid ((live_start w).add hx)
  clear hx lx ex0 ex1 hmx hyx tx bx p0 p1 hPp hPbp hkp q0 q1 hPq hPbq hkq r1 b1 r2 b2 r3 hm2 hn2
  go_enter Tryd.func14, Tryd.ntmps14
  go_wp2_with fail
  obtain ⟨v1, hW⟩ : ∃ W : World, W = (w.alloc (.cells #[.bool sx, .slice Ax xsx.length cx, .int .i64 ex] 26)) := ⟨_, rfl⟩
  rw [← hW]
  have hb : Below w.heap.size w v1 := by rw [hW]; exact ((Below.refl _ _).alloc (by simp <;> omega) _)
  have L1 := Lib.hid (L0.out.step hb)
  have Rx_1 := Lib.hid (show v1.heap[w.heap.size]? = some (.cells #[.bool sx, .slice Ax xsx.length cx, .int .i64 ex] 26 (0, 0)) by rw [hW]; have := heap_alloc_new w (.cells #[.bool sx, .slice Ax xsx.length cx, .int .i64 ex] 26); simpa using this)
  have Gx : w.heap.size ≤ w.heap.size := by have := L0.out.1.size; omega
  clear hW hb
  refine (dexamples_any _ (t32_live HT.out L1.out)).mono ?_
  rintro e w2 ⟨rfl, hb⟩
  have L2 := Lib.hid (L1.out.step hb)
  have Rx_2 := Lib.hid (cells_of Rx_1.out hb)
  clear hb 
  have fx0 := row_c (i := 0) Rx_2.out rfl
  have zx0 := frozen_of_row _ _ 0 _ _ Rx_2.out
  have fx1 := row_c (i := 1) Rx_2.out rfl
  have zx1 := frozen_of_row _ _ 1 _ _ Rx_2.out
  have fx2 := row_c (i := 2) Rx_2.out rfl
  have zx2 := frozen_of_row _ _ 2 _ _ Rx_2.out
  have xx := heap_lt Rx_2.out
  go_wp2_with fail
  refine (tame_any (M := mx) (E := yx) (L2.out.get (A := Ax) (c := cx) (xs := xsx) (by simp)) (t32_live HT.out L2.out) LXx.out E0x.out E1x.out HMx.out HYx.out).mono ?_
  rintro e w3 ⟨A3, c3, rfl, hd, hb⟩
  have L3 := Lib.hid ((L2.out.step hb).add hd)
  clear fx0 zx0 fx1 zx1 fx2 zx2 xx
  have Rx_3 := Lib.hid (cells_of Rx_2.out hb)
  clear hb hd
  go_wp2_with fail
  obtain ⟨w4, hW⟩ : ∃ W : World, W = (w3.alloc (.cells #[.bool (decide (mx < 0)), .slice A3 (digs mx.natAbs).length c3, .int .i64 yx] 26)) := ⟨_, rfl⟩
  rw [← hW]
  have hb : Below w3.heap.size w3 w4 := by rw [hW]; exact ((Below.refl _ _).alloc (by simp <;> omega) _)
  have L4 := Lib.hid (L3.out.step hb)
  have Rx_4 := Lib.hid (cells_of Rx_3.out hb)
  have Rtx_4 := Lib.hid (show w4.heap[w3.heap.size]? = some (.cells #[.bool (decide (mx < 0)), .slice A3 (digs mx.natAbs).length c3, .int .i64 yx] 26 (0, 0)) by rw [hW]; have := heap_alloc_new w3 (.cells #[.bool (decide (mx < 0)), .slice A3 (digs mx.natAbs).length c3, .int .i64 yx] 26); simpa using this)
  have Gtx : w.heap.size ≤ w3.heap.size := by have := L3.out.1.size; omega
  have Nxtx : w.heap.size < w3.heap.size := by have := heap_lt Rx_3.out; omega
  clear hW hb
  refine (prec_any (q := Pp) Q0p.out Q1p.out HPp.out).mono ?_
  rintro e w5 ⟨rfl, rfl⟩
  go_wp2_with fail
  refine (prec_any (q := Pq) Q0q.out Q1q.out HPq.out).mono ?_
  rintro e w6 ⟨rfl, rfl⟩
  have ftx0 := row_c (i := 0) Rtx_4.out rfl
  have ztx0 := frozen_of_row _ _ 0 _ _ Rtx_4.out
  have ftx1 := row_c (i := 1) Rtx_4.out rfl
  have ztx1 := frozen_of_row _ _ 1 _ _ Rtx_4.out
  have ftx2 := row_c (i := 2) Rtx_4.out rfl
  have ztx2 := frozen_of_row _ _ 2 _ _ Rtx_4.out
  have xtx := heap_lt Rtx_4.out
  go_wp2_with fail
  refine (round_yes (m := mx) (x := yx) (M := M1) (E := E1) (up := up) (L4.out.get (A := A3) (c := c3) (xs := digs mx.natAbs) (by simp)) Dx.out Rx.out (t32_live HT.out L4.out) (p := max kp kq) KM.out HM2.out.1 HM2.out.2 HRu.out Iu.out).mono ?_
  rintro e w7 ⟨A7, c7, rfl, hd, hb⟩
  have L7 := Lib.hid ((L4.out.step hb).add hd)
  clear ftx0 ztx0 ftx1 ztx1 ftx2 ztx2 xtx
  have Rx_7 := Lib.hid (cells_of Rx_4.out hb)
  have Rtx_7 := Lib.hid (cells_of Rtx_4.out hb)
  clear hb hd
  go_wp2_with fail
  obtain ⟨w8, hW⟩ : ∃ W : World, W = (w7.alloc (.cells #[.bool (decide (M1 < 0)), .slice A7 (digs M1.natAbs).length c7, .int .i64 E1] 26)) := ⟨_, rfl⟩
  rw [← hW]
  have hb : Below w7.heap.size w7 w8 := by rw [hW]; exact ((Below.refl _ _).alloc (by simp <;> omega) _)
  have L8 := Lib.hid (L7.out.step hb)
  have Rx_8 := Lib.hid (cells_of Rx_7.out hb)
  have Rtx_8 := Lib.hid (cells_of Rtx_7.out hb)
  have Rbu_8 := Lib.hid (show w8.heap[w7.heap.size]? = some (.cells #[.bool (decide (M1 < 0)), .slice A7 (digs M1.natAbs).length c7, .int .i64 E1] 26 (0, 0)) by rw [hW]; have := heap_alloc_new w7 (.cells #[.bool (decide (M1 < 0)), .slice A7 (digs M1.natAbs).length c7, .int .i64 E1] 26); simpa using this)
  have Gbu : w.heap.size ≤ w7.heap.size := by have := L7.out.1.size; omega
  have Nxbu : w.heap.size < w7.heap.size := by have := heap_lt Rx_7.out; omega
  have Ntxbu : w3.heap.size < w7.heap.size := by have := heap_lt Rtx_7.out; omega
  clear hW hb
  refine (round_yes (m := M1) (x := E1) (M := M2) (E := E2) (up := up) (L8.out.get (A := A7) (c := c7) (xs := digs M1.natAbs) (by simp)) Du.out Ru.out (t32_live HT.out L8.out) (p := min kp kq) KN.out HN2.out.1 HN2.out.2 HRv.out Iv.out).mono ?_
  rintro e w9 ⟨A9, c9, rfl, hd, hb⟩
  have L9 := Lib.hid ((L8.out.step hb).add hd)
  have Rx_9 := Lib.hid (cells_of Rx_8.out hb)
  have Rtx_9 := Lib.hid (cells_of Rtx_8.out hb)
  have Rbu_9 := Lib.hid (cells_of Rbu_8.out hb)
  clear hb hd
  have ftx0 := row_c (i := 0) Rtx_9.out rfl
  have ztx0 := frozen_of_row _ _ 0 _ _ Rtx_9.out
  have ftx1 := row_c (i := 1) Rtx_9.out rfl
  have ztx1 := frozen_of_row _ _ 1 _ _ Rtx_9.out
  have ftx2 := row_c (i := 2) Rtx_9.out rfl
  have ztx2 := frozen_of_row _ _ 2 _ _ Rtx_9.out
  have xtx := heap_lt Rtx_9.out
  go_wp2_with fail
  obtain ⟨w10, hW⟩ : ∃ W : World, W = (w9.alloc (.cells #[.bool (decide (M2 < 0)), .slice A9 (digs M2.natAbs).length c9, .int .i64 E2] 26)) := ⟨_, rfl⟩
  rw [← hW]
  have hb : Below w9.heap.size w9 w10 := by rw [hW]; exact ((Below.refl _ _).alloc (by simp <;> omega) _)
  have L10 := Lib.hid (L9.out.step hb)
  have Rx_10 := Lib.hid (cells_of Rx_9.out hb)
  have Rtx_10 := Lib.hid (cells_of Rtx_9.out hb)
  have Rbu_10 := Lib.hid (cells_of Rbu_9.out hb)
  have Rbv_10 := Lib.hid (show w10.heap[w9.heap.size]? = some (.cells #[.bool (decide (M2 < 0)), .slice A9 (digs M2.natAbs).length c9, .int .i64 E2] 26 (0, 0)) by rw [hW]; have := heap_alloc_new w9 (.cells #[.bool (decide (M2 < 0)), .slice A9 (digs M2.natAbs).length c9, .int .i64 E2] 26); simpa using this)
  have Gbv : w.heap.size ≤ w9.heap.size := by have := L9.out.1.size; omega
  have Nxbv : w.heap.size < w9.heap.size := by have := heap_lt Rx_9.out; omega
  have Ntxbv : w3.heap.size < w9.heap.size := by have := heap_lt Rtx_9.out; omega
  have Nbubv : w7.heap.size < w9.heap.size := by have := heap_lt Rbu_9.out; omega
  clear hW hb
  clear ftx0 ztx0 ftx1 ztx1 ftx2 ztx2 xtx
  refine (round_yes (m := mx) (x := yx) (M := M2) (E := E2) (up := up) (L10.out.get (A := A3) (c := c3) (xs := digs mx.natAbs) (by simp)) Dx.out Rx.out (t32_live HT.out L10.out) (p := min kp kq) KN.out HN2.out.1 HN2.out.2 HRz.out Iz.out).mono ?_
  rintro e w11 ⟨A11, c11, rfl, hd, hb⟩
  have L11 := Lib.hid ((L10.out.step hb).add hd)
  have Rx_11 := Lib.hid (cells_of Rx_10.out hb)
  have Rtx_11 := Lib.hid (cells_of Rtx_10.out hb)
  have Rbu_11 := Lib.hid (cells_of Rbu_10.out hb)
  have Rbv_11 := Lib.hid (cells_of Rbv_10.out hb)
  clear hb hd
  have fbv0 := row_c (i := 0) Rbv_11.out rfl
  have zbv0 := frozen_of_row _ _ 0 _ _ Rbv_11.out
  have fbv1 := row_c (i := 1) Rbv_11.out rfl
  have zbv1 := frozen_of_row _ _ 1 _ _ Rbv_11.out
  have fbv2 := row_c (i := 2) Rbv_11.out rfl
  have zbv2 := frozen_of_row _ _ 2 _ _ Rbv_11.out
  have xbv := heap_lt Rbv_11.out
  go_wp2_with fail
  obtain ⟨w12, hW⟩ : ∃ W : World, W = (w11.alloc (.cells #[.bool (decide (M2 < 0)), .slice A11 (digs M2.natAbs).length c11, .int .i64 E2] 26)) := ⟨_, rfl⟩
  rw [← hW]
  have hb : Below w11.heap.size w11 w12 := by rw [hW]; exact ((Below.refl _ _).alloc (by simp <;> omega) _)
  have L12 := Lib.hid (L11.out.step hb)
  have Rx_12 := Lib.hid (cells_of Rx_11.out hb)
  have Rtx_12 := Lib.hid (cells_of Rtx_11.out hb)
  have Rbu_12 := Lib.hid (cells_of Rbu_11.out hb)
  have Rbv_12 := Lib.hid (cells_of Rbv_11.out hb)
  have Rbz_12 := Lib.hid (show w12.heap[w11.heap.size]? = some (.cells #[.bool (decide (M2 < 0)), .slice A11 (digs M2.natAbs).length c11, .int .i64 E2] 26 (0, 0)) by rw [hW]; have := heap_alloc_new w11 (.cells #[.bool (decide (M2 < 0)), .slice A11 (digs M2.natAbs).length c11, .int .i64 E2] 26); simpa using this)
  have Gbz : w.heap.size ≤ w11.heap.size := by have := L11.out.1.size; omega
  have Nxbz : w.heap.size < w11.heap.size := by have := heap_lt Rx_11.out; omega
  have Ntxbz : w3.heap.size < w11.heap.size := by have := heap_lt Rtx_11.out; omega
  have Nbubz : w7.heap.size < w11.heap.size := by have := heap_lt Rbu_11.out; omega
  have Nbvbz : w9.heap.size < w11.heap.size := by have := heap_lt Rbv_11.out; omega
  clear hW hb
  clear fbv0 zbv0 fbv1 zbv1 fbv2 zbv2 xbv
  refine (dsame_d (m := M2) (n := M2) (x := E2) (y := E2) (q := true) (L12.out.get (A := A9) (c := c9) (xs := digs M2.natAbs) (by simp)) (L12.out.get (A := A11) (c := c11) (xs := digs M2.natAbs) (by simp)) Dv.out (by simp)).mono ?_
  rintro e w13 ⟨rfl, hb⟩
  have L13 := Lib.hid (L12.out.step hb)
  have Rx_13 := Lib.hid (cells_of Rx_12.out hb)
  have Rtx_13 := Lib.hid (cells_of Rtx_12.out hb)
  have Rbu_13 := Lib.hid (cells_of Rbu_12.out hb)
  have Rbv_13 := Lib.hid (cells_of Rbv_12.out hb)
  have Rbz_13 := Lib.hid (cells_of Rbz_12.out hb)
  clear hb 
  go_wp2
  go_ret
  exact ⟨rfl, L13.out.1⟩
end Go.Proofs.YtnfafgpnnpapdaaDoor
end

section
/-
  DyadLaws.
-/
namespace Go.Proofs.YtnfafgpnnpapdaaDoor
open Go.RowKit
set_option linter.unusedSimpArgs false
set_option linter.unusedVariables false
set_option maxHeartbeats 8000000 in
set_option maxRecDepth 100000 in
theorem dyadLaws_n  (Ax : Option Addr) (cx : Nat) (sx : Bool) (xsx : List Nat) (ex : Int) (Ay : Option Addr) (cy : Nat) (sy : Bool) (xsy : List Nat) (ey : Int) (Az : Option Addr) (cz : Nat) (sz : Bool) (xsz : List Nat) (ez : Int) (n : Int) (w : World)  (hx : Dg w Ax cx xsx) (lx : xsx.length ≤ 9223372036854775807) (ex0 : -9223372036854775808 ≤ ex) (ex1 : ex ≤ 9223372036854775807) (hy : Dg w Ay cy xsy) (ly : xsy.length ≤ 9223372036854775807) (ey0 : -9223372036854775808 ≤ ey) (ey1 : ey ≤ 9223372036854775807) (hz : Dg w Az cz xsz) (lz : xsz.length ≤ 9223372036854775807) (ez0 : -9223372036854775808 ≤ ez) (ez1 : ez ≤ 9223372036854775807) (n0 : -9223372036854775808 ≤ n) (n1 : n ≤ 9223372036854775807) (hT : T32 w) (hn : n < 0):
    Calls Tryd.prog 9 #[.agg #[.bool sx, .slice Ax xsx.length cx, .int .i64 ex], .agg #[.bool sy, .slice Ay xsy.length cy, .int .i64 ey], .agg #[.bool sz, .slice Az xsz.length cz, .int .i64 ez], .int .i64 n] w fun e w' => e = .returned (.bool true) ∧ Below w.heap.size w w' := by
  obtain ⟨mx, hmx⟩ : ∃ m, nm (sg sx (val (xsx.take 6))) = m := ⟨_, rfl⟩
  obtain ⟨yx, hyx⟩ : ∃ m, nx (sg sx (val (xsx.take 6))) (tameE ex) = m := ⟨_, rfl⟩
  have tx : Tm mx yx := hmx ▸ hyx ▸ tame_tm hx.2.1
  have bx := tx.bd
  have HMx := Lib.hid hmx
  have HYx := Lib.hid hyx
  have LXx := Lib.hid lx
  have E0x := Lib.hid ex0
  have E1x := Lib.hid ex1
  have Rx := Lib.hid tx.rt
  have Ix := Lib.hid tx.inR
  have Dx := Lib.hid (inr_len tx.inR)
  obtain ⟨my, hmy⟩ : ∃ m, nm (sg sy (val (xsy.take 6))) = m := ⟨_, rfl⟩
  obtain ⟨yy, hyy⟩ : ∃ m, nx (sg sy (val (xsy.take 6))) (tameE ey) = m := ⟨_, rfl⟩
  have ty : Tm my yy := hmy ▸ hyy ▸ tame_tm hy.2.1
  skip
  have HMy := Lib.hid hmy
  have HYy := Lib.hid hyy
  have LXy := Lib.hid ly
  have E0y := Lib.hid ey0
  have E1y := Lib.hid ey1
  have Ry := Lib.hid ty.rt
  have Iy := Lib.hid ty.inR
  have Dy := Lib.hid (inr_len ty.inR)
  obtain ⟨mz, hmz⟩ : ∃ m, nm (sg sz (val (xsz.take 6))) = m := ⟨_, rfl⟩
  obtain ⟨yz, hyz⟩ : ∃ m, nx (sg sz (val (xsz.take 6))) (tameE ez) = m := ⟨_, rfl⟩
  have tz : Tm mz yz := hmz ▸ hyz ▸ tame_tm hz.2.1
  have bz := tz.bd
  have HMz := Lib.hid hmz
  have HYz := Lib.hid hyz
  have LXz := Lib.hid lz
  have E0z := Lib.hid ez0
  have E1z := Lib.hid ez1
  have Rz := Lib.hid tz.rt
  have Iz := Lib.hid tz.inR
  have Dz := Lib.hid (inr_len tz.inR)
  have byy := ty.bd
  obtain ⟨Md, Ed, i1⟩ := isD_add my yy mz yz
  have b1 := byy.add bz i1
  obtain ⟨Ms, Es, i2⟩ := isD_mul mx yx Md Ed
  have b2 := bx.mul b1 i2
  obtain ⟨Mp, Ep, i3⟩ := isD_mul mx yx my yy
  have b3 := bx.mul byy i3
  obtain ⟨Mq, Eq, i4⟩ := isD_mul mx yx mz yz
  have b4 := bx.mul bz i4
  have i5 : IsD (dv Mq Eq + dv Mp Ep) Ms Es := ⟨i2.1, by rw [i2.2, i1.2, i4.2, i3.2]; grind⟩
  obtain ⟨r, hr⟩ : ∃ r, (-(n + 1)).tmod 601 = r := ⟨_, rfl⟩
  have hr2 := Int.tmod_eq_emod_of_nonneg (b := 601) (show 0 ≤ -(n + 1) by omega)
  rw [hr] at hr2
  have r0 : 0 ≤ r := by omega
  have r9 : r ≤ 600 := by omega
  clear hr2
  obtain ⟨Mt, Et, i6⟩ := isD_ex Ms (Es + (r - 300))
  have b6 := b2.scale i6
  obtain ⟨Mu, Eu, i7⟩ := isD_ex mx (yx + (r - 300))
  have b7 := bx.scale i7
  have i8 : IsD (dv Md Ed * dv Mu Eu) Mt Et := ⟨i6.1, by rw [i6.2, i7.2, dv_scale, dv_scale, i2.2]; grind⟩
  have i9 : IsD (dv Md Ed - dv mz yz) my yy := ⟨byy.1, by rw [i1.2]; grind⟩
  have D0 := Lib.hid (show decide (n < 0) = true by simp; omega)
  have HR0 := Lib.hid hr
  have R0 := Lib.hid r0
  have R9 := Lib.hid r9
  have N0 := Lib.hid n0
  have N1 := Lib.hid n1
  have NN := Lib.hid hn
  have Rd := Lib.hid (Bd.rt b1 (by omega) (by omega))
  have Id := Lib.hid (Bd.inR b1 (by omega) (by omega))
  have Dd := Lib.hid (inr_len Id.out)
  have Rs := Lib.hid (Bd.rt b2 (by omega) (by omega))
  have Is := Lib.hid (Bd.inR b2 (by omega) (by omega))
  have Ds := Lib.hid (inr_len Is.out)
  have Rp := Lib.hid (Bd.rt b3 (by omega) (by omega))
  have Ip := Lib.hid (Bd.inR b3 (by omega) (by omega))
  have Dp := Lib.hid (inr_len Ip.out)
  have Rq := Lib.hid (Bd.rt b4 (by omega) (by omega))
  have Iq := Lib.hid (Bd.inR b4 (by omega) (by omega))
  have Dq := Lib.hid (inr_len Iq.out)
  have Rt := Lib.hid (Bd.rt b2 (by omega) (by omega))
  have It := Lib.hid (Bd.inR b2 (by omega) (by omega))
  have Dt := Lib.hid (inr_len It.out)
  have Ru := Lib.hid (Bd.rt b6 (by omega) (by omega))
  have Iu := Lib.hid (Bd.inR b6 (by omega) (by omega))
  have Du := Lib.hid (inr_len Iu.out)
  have Rv := Lib.hid (Bd.rt b7 (by omega) (by omega))
  have Iv := Lib.hid (Bd.inR b7 (by omega) (by omega))
  have Dv := Lib.hid (inr_len Iv.out)
  have Rj := Lib.hid (Bd.rt b6 (by omega) (by omega))
  have Ij := Lib.hid (Bd.inR b6 (by omega) (by omega))
  have Dj := Lib.hid (inr_len Ij.out)
  have Rg := Lib.hid (Bd.rt byy (by omega) (by omega))
  have Ig := Lib.hid (Bd.inR byy (by omega) (by omega))
  have Dg := Lib.hid (inr_len Ig.out)
  have H1 := Lib.hid i1
  have H2 := Lib.hid i2
  have H3 := Lib.hid i3
  have H4 := Lib.hid i4
  have H5 := Lib.hid i5
  have H6 := Lib.hid i6
  have H7 := Lib.hid i7
  have H8 := Lib.hid i8
  have H9 := Lib.hid i9
  have HT := Lib.hid hT
  clear hT
  have L0 := Lib.hid ((((live_start w).add hx).add hy).add hz)
  clear hx lx ex0 ex1 hmx hyx tx bx hy ly ey0 ey1 hmy hyy ty lz ez0 ez1 hmz hyz tz bz n0 n1 hn byy hr r0 r9 i1 i2 i3 i4 i5 i6 i7 i8 i9 b1 b2 b3 b4 b6 b7
  go_enter Tryd.func9, Tryd.ntmps9
  go_wp2_with fail
  obtain ⟨v1, hW⟩ : ∃ W : World, W = (((w.alloc (.cells #[.bool sx, .slice Ax xsx.length cx, .int .i64 ex] 26)).alloc (.cells #[.bool sy, .slice Ay xsy.length cy, .int .i64 ey] 26)).alloc (.cells #[.bool sz, .slice Az xsz.length cz, .int .i64 ez] 26)) := ⟨_, rfl⟩
  rw [← hW]
  have hb : Below w.heap.size w v1 := by rw [hW]; exact ((((Below.refl _ _).alloc (by simp <;> omega) _).alloc (by simp <;> omega) _).alloc (by simp <;> omega) _)
  have L1 := Lib.hid (L0.out.step hb)
  have Rx_1 := Lib.hid (show v1.heap[w.heap.size]? = some (.cells #[.bool sx, .slice Ax xsx.length cx, .int .i64 ex] 26 (0, 0)) by rw [hW]; have := heap_alloc_new w (.cells #[.bool sx, .slice Ax xsx.length cx, .int .i64 ex] 26); rw [heap_alloc_old _ _ (by simp <;> omega)]; rw [heap_alloc_old _ _ (by simp <;> omega)]; simpa using this)
  have Gx : w.heap.size ≤ w.heap.size := by have := L0.out.1.size; omega
  have Ry_1 := Lib.hid (show v1.heap[w.heap.size + 1]? = some (.cells #[.bool sy, .slice Ay xsy.length cy, .int .i64 ey] 26 (0, 0)) by rw [hW]; have := heap_alloc_new (w.alloc (.cells #[.bool sx, .slice Ax xsx.length cx, .int .i64 ex] 26)) (.cells #[.bool sy, .slice Ay xsy.length cy, .int .i64 ey] 26); rw [heap_alloc_old _ _ (by simp <;> omega)]; simpa using this)
  have Gy : w.heap.size ≤ w.heap.size + 1 := by have := L0.out.1.size; omega
  have Nxy : w.heap.size < w.heap.size + 1 := by omega
  have Rz_1 := Lib.hid (show v1.heap[w.heap.size + 1 + 1]? = some (.cells #[.bool sz, .slice Az xsz.length cz, .int .i64 ez] 26 (0, 0)) by rw [hW]; have := heap_alloc_new ((w.alloc (.cells #[.bool sx, .slice Ax xsx.length cx, .int .i64 ex] 26)).alloc (.cells #[.bool sy, .slice Ay xsy.length cy, .int .i64 ey] 26)) (.cells #[.bool sz, .slice Az xsz.length cz, .int .i64 ez] 26); simpa using this)
  have Gz : w.heap.size ≤ w.heap.size + 1 + 1 := by have := L0.out.1.size; omega
  have Nxz : w.heap.size < w.heap.size + 1 + 1 := by omega
  have Nyz : w.heap.size + 1 < w.heap.size + 1 + 1 := by omega
  clear hW hb
  refine (dexamples_any _ (t32_live HT.out L1.out)).mono ?_
  rintro e w2 ⟨rfl, hb⟩
  have L2 := Lib.hid (L1.out.step hb)
  have Rx_2 := Lib.hid (cells_of Rx_1.out hb)
  have Ry_2 := Lib.hid (cells_of Ry_1.out hb)
  have Rz_2 := Lib.hid (cells_of Rz_1.out hb)
  clear hb 
  have fx0 := row_c (i := 0) Rx_2.out rfl
  have zx0 := frozen_of_row _ _ 0 _ _ Rx_2.out
  have fx1 := row_c (i := 1) Rx_2.out rfl
  have zx1 := frozen_of_row _ _ 1 _ _ Rx_2.out
  have fx2 := row_c (i := 2) Rx_2.out rfl
  have zx2 := frozen_of_row _ _ 2 _ _ Rx_2.out
  have xx := heap_lt Rx_2.out
  go_wp2_with fail
  refine (tame_any (M := mx) (E := yx) (L2.out.get (A := Ax) (c := cx) (xs := xsx) (by simp)) (t32_live HT.out L2.out) LXx.out E0x.out E1x.out HMx.out HYx.out).mono ?_
  rintro e w3 ⟨A3, c3, rfl, hd, hb⟩
  have L3 := Lib.hid ((L2.out.step hb).add hd)
  clear fx0 zx0 fx1 zx1 fx2 zx2 xx
  have Rx_3 := Lib.hid (cells_of Rx_2.out hb)
  have Ry_3 := Lib.hid (cells_of Ry_2.out hb)
  have Rz_3 := Lib.hid (cells_of Rz_2.out hb)
  clear hb hd
  have fy0 := row_c (i := 0) Ry_3.out rfl
  have zy0 := frozen_of_row _ _ 0 _ _ Ry_3.out
  have fy1 := row_c (i := 1) Ry_3.out rfl
  have zy1 := frozen_of_row _ _ 1 _ _ Ry_3.out
  have fy2 := row_c (i := 2) Ry_3.out rfl
  have zy2 := frozen_of_row _ _ 2 _ _ Ry_3.out
  have xy := heap_lt Ry_3.out
  go_wp2_with fail
  obtain ⟨w4, hW⟩ : ∃ W : World, W = (w3.alloc (.cells #[.bool (decide (mx < 0)), .slice A3 (digs mx.natAbs).length c3, .int .i64 yx] 26)) := ⟨_, rfl⟩
  rw [← hW]
  have hb : Below w3.heap.size w3 w4 := by rw [hW]; exact ((Below.refl _ _).alloc (by simp <;> omega) _)
  have L4 := Lib.hid (L3.out.step hb)
  have Rx_4 := Lib.hid (cells_of Rx_3.out hb)
  have Ry_4 := Lib.hid (cells_of Ry_3.out hb)
  have Rz_4 := Lib.hid (cells_of Rz_3.out hb)
  have Rtx_4 := Lib.hid (show w4.heap[w3.heap.size]? = some (.cells #[.bool (decide (mx < 0)), .slice A3 (digs mx.natAbs).length c3, .int .i64 yx] 26 (0, 0)) by rw [hW]; have := heap_alloc_new w3 (.cells #[.bool (decide (mx < 0)), .slice A3 (digs mx.natAbs).length c3, .int .i64 yx] 26); simpa using this)
  have Gtx : w.heap.size ≤ w3.heap.size := by have := L3.out.1.size; omega
  have Nxtx : w.heap.size < w3.heap.size := by have := heap_lt Rx_3.out; omega
  have Nytx : w.heap.size + 1 < w3.heap.size := by have := heap_lt Ry_3.out; omega
  have Nztx : w.heap.size + 1 + 1 < w3.heap.size := by have := heap_lt Rz_3.out; omega
  clear hW hb
  clear fy0 zy0 fy1 zy1 fy2 zy2 xy
  refine (tame_any (M := my) (E := yy) (L4.out.get (A := Ay) (c := cy) (xs := xsy) (by simp)) (t32_live HT.out L4.out) LXy.out E0y.out E1y.out HMy.out HYy.out).mono ?_
  rintro e w5 ⟨A5, c5, rfl, hd, hb⟩
  have L5 := Lib.hid ((L4.out.step hb).add hd)
  have Rx_5 := Lib.hid (cells_of Rx_4.out hb)
  have Ry_5 := Lib.hid (cells_of Ry_4.out hb)
  have Rz_5 := Lib.hid (cells_of Rz_4.out hb)
  have Rtx_5 := Lib.hid (cells_of Rtx_4.out hb)
  clear hb hd
  have fz0 := row_c (i := 0) Rz_5.out rfl
  have zz0 := frozen_of_row _ _ 0 _ _ Rz_5.out
  have fz1 := row_c (i := 1) Rz_5.out rfl
  have zz1 := frozen_of_row _ _ 1 _ _ Rz_5.out
  have fz2 := row_c (i := 2) Rz_5.out rfl
  have zz2 := frozen_of_row _ _ 2 _ _ Rz_5.out
  have xz := heap_lt Rz_5.out
  go_wp2_with fail
  obtain ⟨w6, hW⟩ : ∃ W : World, W = (w5.alloc (.cells #[.bool (decide (my < 0)), .slice A5 (digs my.natAbs).length c5, .int .i64 yy] 26)) := ⟨_, rfl⟩
  rw [← hW]
  have hb : Below w5.heap.size w5 w6 := by rw [hW]; exact ((Below.refl _ _).alloc (by simp <;> omega) _)
  have L6 := Lib.hid (L5.out.step hb)
  have Rx_6 := Lib.hid (cells_of Rx_5.out hb)
  have Ry_6 := Lib.hid (cells_of Ry_5.out hb)
  have Rz_6 := Lib.hid (cells_of Rz_5.out hb)
  have Rtx_6 := Lib.hid (cells_of Rtx_5.out hb)
  have Rty_6 := Lib.hid (show w6.heap[w5.heap.size]? = some (.cells #[.bool (decide (my < 0)), .slice A5 (digs my.natAbs).length c5, .int .i64 yy] 26 (0, 0)) by rw [hW]; have := heap_alloc_new w5 (.cells #[.bool (decide (my < 0)), .slice A5 (digs my.natAbs).length c5, .int .i64 yy] 26); simpa using this)
  have Gty : w.heap.size ≤ w5.heap.size := by have := L5.out.1.size; omega
  have Nxty : w.heap.size < w5.heap.size := by have := heap_lt Rx_5.out; omega
  have Nyty : w.heap.size + 1 < w5.heap.size := by have := heap_lt Ry_5.out; omega
  have Nzty : w.heap.size + 1 + 1 < w5.heap.size := by have := heap_lt Rz_5.out; omega
  have Ntxty : w3.heap.size < w5.heap.size := by have := heap_lt Rtx_5.out; omega
  clear hW hb
  clear fz0 zz0 fz1 zz1 fz2 zz2 xz
  refine (tame_any (M := mz) (E := yz) (L6.out.get (A := Az) (c := cz) (xs := xsz) (by simp)) (t32_live HT.out L6.out) LXz.out E0z.out E1z.out HMz.out HYz.out).mono ?_
  rintro e w7 ⟨A7, c7, rfl, hd, hb⟩
  have L7 := Lib.hid ((L6.out.step hb).add hd)
  have Rx_7 := Lib.hid (cells_of Rx_6.out hb)
  have Ry_7 := Lib.hid (cells_of Ry_6.out hb)
  have Rz_7 := Lib.hid (cells_of Rz_6.out hb)
  have Rtx_7 := Lib.hid (cells_of Rtx_6.out hb)
  have Rty_7 := Lib.hid (cells_of Rty_6.out hb)
  clear hb hd
  have d1 := D0.out
  have hr := HR0.out
  have r0 := R0.out
  have r9 := R9.out
  have n0 := N0.out
  have n1 := N1.out
  have hn := NN.out
  have fty0 := row_c (i := 0) Rty_7.out rfl
  have zty0 := frozen_of_row _ _ 0 _ _ Rty_7.out
  have fty1 := row_c (i := 1) Rty_7.out rfl
  have zty1 := frozen_of_row _ _ 1 _ _ Rty_7.out
  have fty2 := row_c (i := 2) Rty_7.out rfl
  have zty2 := frozen_of_row _ _ 2 _ _ Rty_7.out
  have xty := heap_lt Rty_7.out
  go_wp2_with fail
  obtain ⟨w8, hW⟩ : ∃ W : World, W = (w7.alloc (.cells #[.bool (decide (mz < 0)), .slice A7 (digs mz.natAbs).length c7, .int .i64 yz] 26)) := ⟨_, rfl⟩
  rw [← hW]
  have hb : Below w7.heap.size w7 w8 := by rw [hW]; exact ((Below.refl _ _).alloc (by simp <;> omega) _)
  have L8 := Lib.hid (L7.out.step hb)
  have Rx_8 := Lib.hid (cells_of Rx_7.out hb)
  have Ry_8 := Lib.hid (cells_of Ry_7.out hb)
  have Rz_8 := Lib.hid (cells_of Rz_7.out hb)
  have Rtx_8 := Lib.hid (cells_of Rtx_7.out hb)
  have Rty_8 := Lib.hid (cells_of Rty_7.out hb)
  have Rtz_8 := Lib.hid (show w8.heap[w7.heap.size]? = some (.cells #[.bool (decide (mz < 0)), .slice A7 (digs mz.natAbs).length c7, .int .i64 yz] 26 (0, 0)) by rw [hW]; have := heap_alloc_new w7 (.cells #[.bool (decide (mz < 0)), .slice A7 (digs mz.natAbs).length c7, .int .i64 yz] 26); simpa using this)
  have Gtz : w.heap.size ≤ w7.heap.size := by have := L7.out.1.size; omega
  have Nxtz : w.heap.size < w7.heap.size := by have := heap_lt Rx_7.out; omega
  have Nytz : w.heap.size + 1 < w7.heap.size := by have := heap_lt Ry_7.out; omega
  have Nztz : w.heap.size + 1 + 1 < w7.heap.size := by have := heap_lt Rz_7.out; omega
  have Ntxtz : w3.heap.size < w7.heap.size := by have := heap_lt Rtx_7.out; omega
  have Ntytz : w5.heap.size < w7.heap.size := by have := heap_lt Rty_7.out; omega
  clear hW hb
  clear fty0 zty0 fty1 zty1 fty2 zty2 xty
  refine (dadd_yes (m := my) (x := yy) (n := mz) (y := yz) (M := Md) (E := Ed) (L8.out.get (A := A5) (c := c5) (xs := digs my.natAbs) (by simp)) (L8.out.get (A := A7) (c := c7) (xs := digs mz.natAbs) (by simp)) Dy.out Dz.out Ry.out Rz.out (t32_live HT.out L8.out) H1.out Id.out).mono ?_
  rintro e w9 ⟨A9, c9, rfl, hd, hb⟩
  have L9 := Lib.hid ((L8.out.step hb).add hd)
  have Rx_9 := Lib.hid (cells_of Rx_8.out hb)
  have Ry_9 := Lib.hid (cells_of Ry_8.out hb)
  have Rz_9 := Lib.hid (cells_of Rz_8.out hb)
  have Rtx_9 := Lib.hid (cells_of Rtx_8.out hb)
  have Rty_9 := Lib.hid (cells_of Rty_8.out hb)
  have Rtz_9 := Lib.hid (cells_of Rtz_8.out hb)
  clear hb hd
  clear d1 hr n0 n1 hn
  have ftx0 := row_c (i := 0) Rtx_9.out rfl
  have ztx0 := frozen_of_row _ _ 0 _ _ Rtx_9.out
  have ftx1 := row_c (i := 1) Rtx_9.out rfl
  have ztx1 := frozen_of_row _ _ 1 _ _ Rtx_9.out
  have ftx2 := row_c (i := 2) Rtx_9.out rfl
  have ztx2 := frozen_of_row _ _ 2 _ _ Rtx_9.out
  have xtx := heap_lt Rtx_9.out
  go_wp2_with fail
  obtain ⟨w10, hW⟩ : ∃ W : World, W = (w9.alloc (.cells #[.bool (decide (Md < 0)), .slice A9 (digs Md.natAbs).length c9, .int .i64 Ed] 26)) := ⟨_, rfl⟩
  rw [← hW]
  have hb : Below w9.heap.size w9 w10 := by rw [hW]; exact ((Below.refl _ _).alloc (by simp <;> omega) _)
  have L10 := Lib.hid (L9.out.step hb)
  have Rx_10 := Lib.hid (cells_of Rx_9.out hb)
  have Ry_10 := Lib.hid (cells_of Ry_9.out hb)
  have Rz_10 := Lib.hid (cells_of Rz_9.out hb)
  have Rtx_10 := Lib.hid (cells_of Rtx_9.out hb)
  have Rty_10 := Lib.hid (cells_of Rty_9.out hb)
  have Rtz_10 := Lib.hid (cells_of Rtz_9.out hb)
  have Rbd_10 := Lib.hid (show w10.heap[w9.heap.size]? = some (.cells #[.bool (decide (Md < 0)), .slice A9 (digs Md.natAbs).length c9, .int .i64 Ed] 26 (0, 0)) by rw [hW]; have := heap_alloc_new w9 (.cells #[.bool (decide (Md < 0)), .slice A9 (digs Md.natAbs).length c9, .int .i64 Ed] 26); simpa using this)
  have Gbd : w.heap.size ≤ w9.heap.size := by have := L9.out.1.size; omega
  have Nxbd : w.heap.size < w9.heap.size := by have := heap_lt Rx_9.out; omega
  have Nybd : w.heap.size + 1 < w9.heap.size := by have := heap_lt Ry_9.out; omega
  have Nzbd : w.heap.size + 1 + 1 < w9.heap.size := by have := heap_lt Rz_9.out; omega
  have Ntxbd : w3.heap.size < w9.heap.size := by have := heap_lt Rtx_9.out; omega
  have Ntybd : w5.heap.size < w9.heap.size := by have := heap_lt Rty_9.out; omega
  have Ntzbd : w7.heap.size < w9.heap.size := by have := heap_lt Rtz_9.out; omega
  clear hW hb
  clear ftx0 ztx0 ftx1 ztx1 ftx2 ztx2 xtx
  refine (dmul_yes (m := mx) (x := yx) (n := Md) (y := Ed) (M := Ms) (E := Es) (L10.out.get (A := A3) (c := c3) (xs := digs mx.natAbs) (by simp)) (L10.out.get (A := A9) (c := c9) (xs := digs Md.natAbs) (by simp)) Dx.out Dd.out Rx.out Rd.out (t32_live HT.out L10.out) H2.out Is.out).mono ?_
  rintro e w11 ⟨A11, c11, rfl, hd, hb⟩
  have L11 := Lib.hid ((L10.out.step hb).add hd)
  have Rx_11 := Lib.hid (cells_of Rx_10.out hb)
  have Ry_11 := Lib.hid (cells_of Ry_10.out hb)
  have Rz_11 := Lib.hid (cells_of Rz_10.out hb)
  have Rtx_11 := Lib.hid (cells_of Rtx_10.out hb)
  have Rty_11 := Lib.hid (cells_of Rty_10.out hb)
  have Rtz_11 := Lib.hid (cells_of Rtz_10.out hb)
  have Rbd_11 := Lib.hid (cells_of Rbd_10.out hb)
  clear hb hd
  have ftx0 := row_c (i := 0) Rtx_11.out rfl
  have ztx0 := frozen_of_row _ _ 0 _ _ Rtx_11.out
  have ftx1 := row_c (i := 1) Rtx_11.out rfl
  have ztx1 := frozen_of_row _ _ 1 _ _ Rtx_11.out
  have ftx2 := row_c (i := 2) Rtx_11.out rfl
  have ztx2 := frozen_of_row _ _ 2 _ _ Rtx_11.out
  have xtx := heap_lt Rtx_11.out
  have fty0 := row_c (i := 0) Rty_11.out rfl
  have zty0 := frozen_of_row _ _ 0 _ _ Rty_11.out
  have fty1 := row_c (i := 1) Rty_11.out rfl
  have zty1 := frozen_of_row _ _ 1 _ _ Rty_11.out
  have fty2 := row_c (i := 2) Rty_11.out rfl
  have zty2 := frozen_of_row _ _ 2 _ _ Rty_11.out
  have xty := heap_lt Rty_11.out
  go_wp2_with fail
  obtain ⟨w12, hW⟩ : ∃ W : World, W = (w11.alloc (.cells #[.bool (decide (Ms < 0)), .slice A11 (digs Ms.natAbs).length c11, .int .i64 Es] 26)) := ⟨_, rfl⟩
  rw [← hW]
  have hb : Below w11.heap.size w11 w12 := by rw [hW]; exact ((Below.refl _ _).alloc (by simp <;> omega) _)
  have L12 := Lib.hid (L11.out.step hb)
  have Rx_12 := Lib.hid (cells_of Rx_11.out hb)
  have Ry_12 := Lib.hid (cells_of Ry_11.out hb)
  have Rz_12 := Lib.hid (cells_of Rz_11.out hb)
  have Rtx_12 := Lib.hid (cells_of Rtx_11.out hb)
  have Rty_12 := Lib.hid (cells_of Rty_11.out hb)
  have Rtz_12 := Lib.hid (cells_of Rtz_11.out hb)
  have Rbd_12 := Lib.hid (cells_of Rbd_11.out hb)
  have Rbs_12 := Lib.hid (show w12.heap[w11.heap.size]? = some (.cells #[.bool (decide (Ms < 0)), .slice A11 (digs Ms.natAbs).length c11, .int .i64 Es] 26 (0, 0)) by rw [hW]; have := heap_alloc_new w11 (.cells #[.bool (decide (Ms < 0)), .slice A11 (digs Ms.natAbs).length c11, .int .i64 Es] 26); simpa using this)
  have Gbs : w.heap.size ≤ w11.heap.size := by have := L11.out.1.size; omega
  have Nxbs : w.heap.size < w11.heap.size := by have := heap_lt Rx_11.out; omega
  have Nybs : w.heap.size + 1 < w11.heap.size := by have := heap_lt Ry_11.out; omega
  have Nzbs : w.heap.size + 1 + 1 < w11.heap.size := by have := heap_lt Rz_11.out; omega
  have Ntxbs : w3.heap.size < w11.heap.size := by have := heap_lt Rtx_11.out; omega
  have Ntybs : w5.heap.size < w11.heap.size := by have := heap_lt Rty_11.out; omega
  have Ntzbs : w7.heap.size < w11.heap.size := by have := heap_lt Rtz_11.out; omega
  have Nbdbs : w9.heap.size < w11.heap.size := by have := heap_lt Rbd_11.out; omega
  clear hW hb
  clear ftx0 ztx0 ftx1 ztx1 ftx2 ztx2 xtx fty0 zty0 fty1 zty1 fty2 zty2 xty
  refine (dmul_yes (m := mx) (x := yx) (n := my) (y := yy) (M := Mp) (E := Ep) (L12.out.get (A := A3) (c := c3) (xs := digs mx.natAbs) (by simp)) (L12.out.get (A := A5) (c := c5) (xs := digs my.natAbs) (by simp)) Dx.out Dy.out Rx.out Ry.out (t32_live HT.out L12.out) H3.out Ip.out).mono ?_
  rintro e w13 ⟨A13, c13, rfl, hd, hb⟩
  have L13 := Lib.hid ((L12.out.step hb).add hd)
  have Rx_13 := Lib.hid (cells_of Rx_12.out hb)
  have Ry_13 := Lib.hid (cells_of Ry_12.out hb)
  have Rz_13 := Lib.hid (cells_of Rz_12.out hb)
  have Rtx_13 := Lib.hid (cells_of Rtx_12.out hb)
  have Rty_13 := Lib.hid (cells_of Rty_12.out hb)
  have Rtz_13 := Lib.hid (cells_of Rtz_12.out hb)
  have Rbd_13 := Lib.hid (cells_of Rbd_12.out hb)
  have Rbs_13 := Lib.hid (cells_of Rbs_12.out hb)
  clear hb hd
  have ftx0 := row_c (i := 0) Rtx_13.out rfl
  have ztx0 := frozen_of_row _ _ 0 _ _ Rtx_13.out
  have ftx1 := row_c (i := 1) Rtx_13.out rfl
  have ztx1 := frozen_of_row _ _ 1 _ _ Rtx_13.out
  have ftx2 := row_c (i := 2) Rtx_13.out rfl
  have ztx2 := frozen_of_row _ _ 2 _ _ Rtx_13.out
  have xtx := heap_lt Rtx_13.out
  have ftz0 := row_c (i := 0) Rtz_13.out rfl
  have ztz0 := frozen_of_row _ _ 0 _ _ Rtz_13.out
  have ftz1 := row_c (i := 1) Rtz_13.out rfl
  have ztz1 := frozen_of_row _ _ 1 _ _ Rtz_13.out
  have ftz2 := row_c (i := 2) Rtz_13.out rfl
  have ztz2 := frozen_of_row _ _ 2 _ _ Rtz_13.out
  have xtz := heap_lt Rtz_13.out
  go_wp2_with fail
  obtain ⟨w14, hW⟩ : ∃ W : World, W = (w13.alloc (.cells #[.bool (decide (Mp < 0)), .slice A13 (digs Mp.natAbs).length c13, .int .i64 Ep] 26)) := ⟨_, rfl⟩
  rw [← hW]
  have hb : Below w13.heap.size w13 w14 := by rw [hW]; exact ((Below.refl _ _).alloc (by simp <;> omega) _)
  have L14 := Lib.hid (L13.out.step hb)
  have Rx_14 := Lib.hid (cells_of Rx_13.out hb)
  have Ry_14 := Lib.hid (cells_of Ry_13.out hb)
  have Rz_14 := Lib.hid (cells_of Rz_13.out hb)
  have Rtx_14 := Lib.hid (cells_of Rtx_13.out hb)
  have Rty_14 := Lib.hid (cells_of Rty_13.out hb)
  have Rtz_14 := Lib.hid (cells_of Rtz_13.out hb)
  have Rbd_14 := Lib.hid (cells_of Rbd_13.out hb)
  have Rbs_14 := Lib.hid (cells_of Rbs_13.out hb)
  have Rbp_14 := Lib.hid (show w14.heap[w13.heap.size]? = some (.cells #[.bool (decide (Mp < 0)), .slice A13 (digs Mp.natAbs).length c13, .int .i64 Ep] 26 (0, 0)) by rw [hW]; have := heap_alloc_new w13 (.cells #[.bool (decide (Mp < 0)), .slice A13 (digs Mp.natAbs).length c13, .int .i64 Ep] 26); simpa using this)
  have Gbp : w.heap.size ≤ w13.heap.size := by have := L13.out.1.size; omega
  have Nxbp : w.heap.size < w13.heap.size := by have := heap_lt Rx_13.out; omega
  have Nybp : w.heap.size + 1 < w13.heap.size := by have := heap_lt Ry_13.out; omega
  have Nzbp : w.heap.size + 1 + 1 < w13.heap.size := by have := heap_lt Rz_13.out; omega
  have Ntxbp : w3.heap.size < w13.heap.size := by have := heap_lt Rtx_13.out; omega
  have Ntybp : w5.heap.size < w13.heap.size := by have := heap_lt Rty_13.out; omega
  have Ntzbp : w7.heap.size < w13.heap.size := by have := heap_lt Rtz_13.out; omega
  have Nbdbp : w9.heap.size < w13.heap.size := by have := heap_lt Rbd_13.out; omega
  have Nbsbp : w11.heap.size < w13.heap.size := by have := heap_lt Rbs_13.out; omega
  clear hW hb
  clear ftx0 ztx0 ftx1 ztx1 ftx2 ztx2 xtx ftz0 ztz0 ftz1 ztz1 ftz2 ztz2 xtz
  refine (dmul_yes (m := mx) (x := yx) (n := mz) (y := yz) (M := Mq) (E := Eq) (L14.out.get (A := A3) (c := c3) (xs := digs mx.natAbs) (by simp)) (L14.out.get (A := A7) (c := c7) (xs := digs mz.natAbs) (by simp)) Dx.out Dz.out Rx.out Rz.out (t32_live HT.out L14.out) H4.out Iq.out).mono ?_
  rintro e w15 ⟨A15, c15, rfl, hd, hb⟩
  have L15 := Lib.hid ((L14.out.step hb).add hd)
  have Rx_15 := Lib.hid (cells_of Rx_14.out hb)
  have Ry_15 := Lib.hid (cells_of Ry_14.out hb)
  have Rz_15 := Lib.hid (cells_of Rz_14.out hb)
  have Rtx_15 := Lib.hid (cells_of Rtx_14.out hb)
  have Rty_15 := Lib.hid (cells_of Rty_14.out hb)
  have Rtz_15 := Lib.hid (cells_of Rtz_14.out hb)
  have Rbd_15 := Lib.hid (cells_of Rbd_14.out hb)
  have Rbs_15 := Lib.hid (cells_of Rbs_14.out hb)
  have Rbp_15 := Lib.hid (cells_of Rbp_14.out hb)
  clear hb hd
  have fbp0 := row_c (i := 0) Rbp_15.out rfl
  have zbp0 := frozen_of_row _ _ 0 _ _ Rbp_15.out
  have fbp1 := row_c (i := 1) Rbp_15.out rfl
  have zbp1 := frozen_of_row _ _ 1 _ _ Rbp_15.out
  have fbp2 := row_c (i := 2) Rbp_15.out rfl
  have zbp2 := frozen_of_row _ _ 2 _ _ Rbp_15.out
  have xbp := heap_lt Rbp_15.out
  go_wp2_with fail
  obtain ⟨w16, hW⟩ : ∃ W : World, W = (w15.alloc (.cells #[.bool (decide (Mq < 0)), .slice A15 (digs Mq.natAbs).length c15, .int .i64 Eq] 26)) := ⟨_, rfl⟩
  rw [← hW]
  have hb : Below w15.heap.size w15 w16 := by rw [hW]; exact ((Below.refl _ _).alloc (by simp <;> omega) _)
  have L16 := Lib.hid (L15.out.step hb)
  have Rx_16 := Lib.hid (cells_of Rx_15.out hb)
  have Ry_16 := Lib.hid (cells_of Ry_15.out hb)
  have Rz_16 := Lib.hid (cells_of Rz_15.out hb)
  have Rtx_16 := Lib.hid (cells_of Rtx_15.out hb)
  have Rty_16 := Lib.hid (cells_of Rty_15.out hb)
  have Rtz_16 := Lib.hid (cells_of Rtz_15.out hb)
  have Rbd_16 := Lib.hid (cells_of Rbd_15.out hb)
  have Rbs_16 := Lib.hid (cells_of Rbs_15.out hb)
  have Rbp_16 := Lib.hid (cells_of Rbp_15.out hb)
  have Rbq_16 := Lib.hid (show w16.heap[w15.heap.size]? = some (.cells #[.bool (decide (Mq < 0)), .slice A15 (digs Mq.natAbs).length c15, .int .i64 Eq] 26 (0, 0)) by rw [hW]; have := heap_alloc_new w15 (.cells #[.bool (decide (Mq < 0)), .slice A15 (digs Mq.natAbs).length c15, .int .i64 Eq] 26); simpa using this)
  have Gbq : w.heap.size ≤ w15.heap.size := by have := L15.out.1.size; omega
  have Nxbq : w.heap.size < w15.heap.size := by have := heap_lt Rx_15.out; omega
  have Nybq : w.heap.size + 1 < w15.heap.size := by have := heap_lt Ry_15.out; omega
  have Nzbq : w.heap.size + 1 + 1 < w15.heap.size := by have := heap_lt Rz_15.out; omega
  have Ntxbq : w3.heap.size < w15.heap.size := by have := heap_lt Rtx_15.out; omega
  have Ntybq : w5.heap.size < w15.heap.size := by have := heap_lt Rty_15.out; omega
  have Ntzbq : w7.heap.size < w15.heap.size := by have := heap_lt Rtz_15.out; omega
  have Nbdbq : w9.heap.size < w15.heap.size := by have := heap_lt Rbd_15.out; omega
  have Nbsbq : w11.heap.size < w15.heap.size := by have := heap_lt Rbs_15.out; omega
  have Nbpbq : w13.heap.size < w15.heap.size := by have := heap_lt Rbp_15.out; omega
  clear hW hb
  clear fbp0 zbp0 fbp1 zbp1 fbp2 zbp2 xbp
  refine (dadd_yes (m := Mq) (x := Eq) (n := Mp) (y := Ep) (M := Ms) (E := Es) (L16.out.get (A := A15) (c := c15) (xs := digs Mq.natAbs) (by simp)) (L16.out.get (A := A13) (c := c13) (xs := digs Mp.natAbs) (by simp)) Dq.out Dp.out Rq.out Rp.out (t32_live HT.out L16.out) H5.out It.out).mono ?_
  rintro e w17 ⟨A17, c17, rfl, hd, hb⟩
  have L17 := Lib.hid ((L16.out.step hb).add hd)
  have Rx_17 := Lib.hid (cells_of Rx_16.out hb)
  have Ry_17 := Lib.hid (cells_of Ry_16.out hb)
  have Rz_17 := Lib.hid (cells_of Rz_16.out hb)
  have Rtx_17 := Lib.hid (cells_of Rtx_16.out hb)
  have Rty_17 := Lib.hid (cells_of Rty_16.out hb)
  have Rtz_17 := Lib.hid (cells_of Rtz_16.out hb)
  have Rbd_17 := Lib.hid (cells_of Rbd_16.out hb)
  have Rbs_17 := Lib.hid (cells_of Rbs_16.out hb)
  have Rbp_17 := Lib.hid (cells_of Rbp_16.out hb)
  have Rbq_17 := Lib.hid (cells_of Rbq_16.out hb)
  clear hb hd
  have fbs0 := row_c (i := 0) Rbs_17.out rfl
  have zbs0 := frozen_of_row _ _ 0 _ _ Rbs_17.out
  have fbs1 := row_c (i := 1) Rbs_17.out rfl
  have zbs1 := frozen_of_row _ _ 1 _ _ Rbs_17.out
  have fbs2 := row_c (i := 2) Rbs_17.out rfl
  have zbs2 := frozen_of_row _ _ 2 _ _ Rbs_17.out
  have xbs := heap_lt Rbs_17.out
  go_wp2_with fail
  obtain ⟨w18, hW⟩ : ∃ W : World, W = (w17.alloc (.cells #[.bool (decide (Ms < 0)), .slice A17 (digs Ms.natAbs).length c17, .int .i64 Es] 26)) := ⟨_, rfl⟩
  rw [← hW]
  have hb : Below w17.heap.size w17 w18 := by rw [hW]; exact ((Below.refl _ _).alloc (by simp <;> omega) _)
  have L18 := Lib.hid (L17.out.step hb)
  have Rx_18 := Lib.hid (cells_of Rx_17.out hb)
  have Ry_18 := Lib.hid (cells_of Ry_17.out hb)
  have Rz_18 := Lib.hid (cells_of Rz_17.out hb)
  have Rtx_18 := Lib.hid (cells_of Rtx_17.out hb)
  have Rty_18 := Lib.hid (cells_of Rty_17.out hb)
  have Rtz_18 := Lib.hid (cells_of Rtz_17.out hb)
  have Rbd_18 := Lib.hid (cells_of Rbd_17.out hb)
  have Rbs_18 := Lib.hid (cells_of Rbs_17.out hb)
  have Rbp_18 := Lib.hid (cells_of Rbp_17.out hb)
  have Rbq_18 := Lib.hid (cells_of Rbq_17.out hb)
  have Rbt_18 := Lib.hid (show w18.heap[w17.heap.size]? = some (.cells #[.bool (decide (Ms < 0)), .slice A17 (digs Ms.natAbs).length c17, .int .i64 Es] 26 (0, 0)) by rw [hW]; have := heap_alloc_new w17 (.cells #[.bool (decide (Ms < 0)), .slice A17 (digs Ms.natAbs).length c17, .int .i64 Es] 26); simpa using this)
  have Gbt : w.heap.size ≤ w17.heap.size := by have := L17.out.1.size; omega
  have Nxbt : w.heap.size < w17.heap.size := by have := heap_lt Rx_17.out; omega
  have Nybt : w.heap.size + 1 < w17.heap.size := by have := heap_lt Ry_17.out; omega
  have Nzbt : w.heap.size + 1 + 1 < w17.heap.size := by have := heap_lt Rz_17.out; omega
  have Ntxbt : w3.heap.size < w17.heap.size := by have := heap_lt Rtx_17.out; omega
  have Ntybt : w5.heap.size < w17.heap.size := by have := heap_lt Rty_17.out; omega
  have Ntzbt : w7.heap.size < w17.heap.size := by have := heap_lt Rtz_17.out; omega
  have Nbdbt : w9.heap.size < w17.heap.size := by have := heap_lt Rbd_17.out; omega
  have Nbsbt : w11.heap.size < w17.heap.size := by have := heap_lt Rbs_17.out; omega
  have Nbpbt : w13.heap.size < w17.heap.size := by have := heap_lt Rbp_17.out; omega
  have Nbqbt : w15.heap.size < w17.heap.size := by have := heap_lt Rbq_17.out; omega
  clear hW hb
  clear fbs0 zbs0 fbs1 zbs1 fbs2 zbs2 xbs
  refine (scale_yes_ _ _ Ms Es (r - 300) Mt Et _ (L18.out.get (A := A11) (c := c11) (xs := digs Ms.natAbs) (by simp)) Ds.out Rs.out (t32_live HT.out L18.out) (by omega) (by omega) H6.out Iu.out).mono ?_
  rintro e w19 ⟨A19, c19, rfl, hd, hb⟩
  have L19 := Lib.hid ((L18.out.step hb).add hd)
  have Rx_19 := Lib.hid (cells_of Rx_18.out hb)
  have Ry_19 := Lib.hid (cells_of Ry_18.out hb)
  have Rz_19 := Lib.hid (cells_of Rz_18.out hb)
  have Rtx_19 := Lib.hid (cells_of Rtx_18.out hb)
  have Rty_19 := Lib.hid (cells_of Rty_18.out hb)
  have Rtz_19 := Lib.hid (cells_of Rtz_18.out hb)
  have Rbd_19 := Lib.hid (cells_of Rbd_18.out hb)
  have Rbs_19 := Lib.hid (cells_of Rbs_18.out hb)
  have Rbp_19 := Lib.hid (cells_of Rbp_18.out hb)
  have Rbq_19 := Lib.hid (cells_of Rbq_18.out hb)
  have Rbt_19 := Lib.hid (cells_of Rbt_18.out hb)
  clear hb hd
  have ftx0 := row_c (i := 0) Rtx_19.out rfl
  have ztx0 := frozen_of_row _ _ 0 _ _ Rtx_19.out
  have ftx1 := row_c (i := 1) Rtx_19.out rfl
  have ztx1 := frozen_of_row _ _ 1 _ _ Rtx_19.out
  have ftx2 := row_c (i := 2) Rtx_19.out rfl
  have ztx2 := frozen_of_row _ _ 2 _ _ Rtx_19.out
  have xtx := heap_lt Rtx_19.out
  go_wp2_with fail
  obtain ⟨w20, hW⟩ : ∃ W : World, W = (w19.alloc (.cells #[.bool (decide (Mt < 0)), .slice A19 (digs Mt.natAbs).length c19, .int .i64 Et] 26)) := ⟨_, rfl⟩
  rw [← hW]
  have hb : Below w19.heap.size w19 w20 := by rw [hW]; exact ((Below.refl _ _).alloc (by simp <;> omega) _)
  have L20 := Lib.hid (L19.out.step hb)
  have Rx_20 := Lib.hid (cells_of Rx_19.out hb)
  have Ry_20 := Lib.hid (cells_of Ry_19.out hb)
  have Rz_20 := Lib.hid (cells_of Rz_19.out hb)
  have Rtx_20 := Lib.hid (cells_of Rtx_19.out hb)
  have Rty_20 := Lib.hid (cells_of Rty_19.out hb)
  have Rtz_20 := Lib.hid (cells_of Rtz_19.out hb)
  have Rbd_20 := Lib.hid (cells_of Rbd_19.out hb)
  have Rbs_20 := Lib.hid (cells_of Rbs_19.out hb)
  have Rbp_20 := Lib.hid (cells_of Rbp_19.out hb)
  have Rbq_20 := Lib.hid (cells_of Rbq_19.out hb)
  have Rbt_20 := Lib.hid (cells_of Rbt_19.out hb)
  have Rbu_20 := Lib.hid (show w20.heap[w19.heap.size]? = some (.cells #[.bool (decide (Mt < 0)), .slice A19 (digs Mt.natAbs).length c19, .int .i64 Et] 26 (0, 0)) by rw [hW]; have := heap_alloc_new w19 (.cells #[.bool (decide (Mt < 0)), .slice A19 (digs Mt.natAbs).length c19, .int .i64 Et] 26); simpa using this)
  have Gbu : w.heap.size ≤ w19.heap.size := by have := L19.out.1.size; omega
  have Nxbu : w.heap.size < w19.heap.size := by have := heap_lt Rx_19.out; omega
  have Nybu : w.heap.size + 1 < w19.heap.size := by have := heap_lt Ry_19.out; omega
  have Nzbu : w.heap.size + 1 + 1 < w19.heap.size := by have := heap_lt Rz_19.out; omega
  have Ntxbu : w3.heap.size < w19.heap.size := by have := heap_lt Rtx_19.out; omega
  have Ntybu : w5.heap.size < w19.heap.size := by have := heap_lt Rty_19.out; omega
  have Ntzbu : w7.heap.size < w19.heap.size := by have := heap_lt Rtz_19.out; omega
  have Nbdbu : w9.heap.size < w19.heap.size := by have := heap_lt Rbd_19.out; omega
  have Nbsbu : w11.heap.size < w19.heap.size := by have := heap_lt Rbs_19.out; omega
  have Nbpbu : w13.heap.size < w19.heap.size := by have := heap_lt Rbp_19.out; omega
  have Nbqbu : w15.heap.size < w19.heap.size := by have := heap_lt Rbq_19.out; omega
  have Nbtbu : w17.heap.size < w19.heap.size := by have := heap_lt Rbt_19.out; omega
  clear hW hb
  clear ftx0 ztx0 ftx1 ztx1 ftx2 ztx2 xtx
  refine (scale_yes_ _ _ mx yx (r - 300) Mu Eu _ (L20.out.get (A := A3) (c := c3) (xs := digs mx.natAbs) (by simp)) Dx.out Rx.out (t32_live HT.out L20.out) (by omega) (by omega) H7.out Iv.out).mono ?_
  rintro e w21 ⟨A21, c21, rfl, hd, hb⟩
  have L21 := Lib.hid ((L20.out.step hb).add hd)
  have Rx_21 := Lib.hid (cells_of Rx_20.out hb)
  have Ry_21 := Lib.hid (cells_of Ry_20.out hb)
  have Rz_21 := Lib.hid (cells_of Rz_20.out hb)
  have Rtx_21 := Lib.hid (cells_of Rtx_20.out hb)
  have Rty_21 := Lib.hid (cells_of Rty_20.out hb)
  have Rtz_21 := Lib.hid (cells_of Rtz_20.out hb)
  have Rbd_21 := Lib.hid (cells_of Rbd_20.out hb)
  have Rbs_21 := Lib.hid (cells_of Rbs_20.out hb)
  have Rbp_21 := Lib.hid (cells_of Rbp_20.out hb)
  have Rbq_21 := Lib.hid (cells_of Rbq_20.out hb)
  have Rbt_21 := Lib.hid (cells_of Rbt_20.out hb)
  have Rbu_21 := Lib.hid (cells_of Rbu_20.out hb)
  clear hb hd
  have fbd0 := row_c (i := 0) Rbd_21.out rfl
  have zbd0 := frozen_of_row _ _ 0 _ _ Rbd_21.out
  have fbd1 := row_c (i := 1) Rbd_21.out rfl
  have zbd1 := frozen_of_row _ _ 1 _ _ Rbd_21.out
  have fbd2 := row_c (i := 2) Rbd_21.out rfl
  have zbd2 := frozen_of_row _ _ 2 _ _ Rbd_21.out
  have xbd := heap_lt Rbd_21.out
  go_wp2_with fail
  obtain ⟨w22, hW⟩ : ∃ W : World, W = (w21.alloc (.cells #[.bool (decide (Mu < 0)), .slice A21 (digs Mu.natAbs).length c21, .int .i64 Eu] 26)) := ⟨_, rfl⟩
  rw [← hW]
  have hb : Below w21.heap.size w21 w22 := by rw [hW]; exact ((Below.refl _ _).alloc (by simp <;> omega) _)
  have L22 := Lib.hid (L21.out.step hb)
  have Rx_22 := Lib.hid (cells_of Rx_21.out hb)
  have Ry_22 := Lib.hid (cells_of Ry_21.out hb)
  have Rz_22 := Lib.hid (cells_of Rz_21.out hb)
  have Rtx_22 := Lib.hid (cells_of Rtx_21.out hb)
  have Rty_22 := Lib.hid (cells_of Rty_21.out hb)
  have Rtz_22 := Lib.hid (cells_of Rtz_21.out hb)
  have Rbd_22 := Lib.hid (cells_of Rbd_21.out hb)
  have Rbs_22 := Lib.hid (cells_of Rbs_21.out hb)
  have Rbp_22 := Lib.hid (cells_of Rbp_21.out hb)
  have Rbq_22 := Lib.hid (cells_of Rbq_21.out hb)
  have Rbt_22 := Lib.hid (cells_of Rbt_21.out hb)
  have Rbu_22 := Lib.hid (cells_of Rbu_21.out hb)
  have Rbv_22 := Lib.hid (show w22.heap[w21.heap.size]? = some (.cells #[.bool (decide (Mu < 0)), .slice A21 (digs Mu.natAbs).length c21, .int .i64 Eu] 26 (0, 0)) by rw [hW]; have := heap_alloc_new w21 (.cells #[.bool (decide (Mu < 0)), .slice A21 (digs Mu.natAbs).length c21, .int .i64 Eu] 26); simpa using this)
  have Gbv : w.heap.size ≤ w21.heap.size := by have := L21.out.1.size; omega
  have Nxbv : w.heap.size < w21.heap.size := by have := heap_lt Rx_21.out; omega
  have Nybv : w.heap.size + 1 < w21.heap.size := by have := heap_lt Ry_21.out; omega
  have Nzbv : w.heap.size + 1 + 1 < w21.heap.size := by have := heap_lt Rz_21.out; omega
  have Ntxbv : w3.heap.size < w21.heap.size := by have := heap_lt Rtx_21.out; omega
  have Ntybv : w5.heap.size < w21.heap.size := by have := heap_lt Rty_21.out; omega
  have Ntzbv : w7.heap.size < w21.heap.size := by have := heap_lt Rtz_21.out; omega
  have Nbdbv : w9.heap.size < w21.heap.size := by have := heap_lt Rbd_21.out; omega
  have Nbsbv : w11.heap.size < w21.heap.size := by have := heap_lt Rbs_21.out; omega
  have Nbpbv : w13.heap.size < w21.heap.size := by have := heap_lt Rbp_21.out; omega
  have Nbqbv : w15.heap.size < w21.heap.size := by have := heap_lt Rbq_21.out; omega
  have Nbtbv : w17.heap.size < w21.heap.size := by have := heap_lt Rbt_21.out; omega
  have Nbubv : w19.heap.size < w21.heap.size := by have := heap_lt Rbu_21.out; omega
  clear hW hb
  clear fbd0 zbd0 fbd1 zbd1 fbd2 zbd2 xbd
  refine (dmul_yes (m := Md) (x := Ed) (n := Mu) (y := Eu) (M := Mt) (E := Et) (L22.out.get (A := A9) (c := c9) (xs := digs Md.natAbs) (by simp)) (L22.out.get (A := A21) (c := c21) (xs := digs Mu.natAbs) (by simp)) Dd.out Dv.out Rd.out Rv.out (t32_live HT.out L22.out) H8.out Ij.out).mono ?_
  rintro e w23 ⟨A23, c23, rfl, hd, hb⟩
  have L23 := Lib.hid ((L22.out.step hb).add hd)
  have Rx_23 := Lib.hid (cells_of Rx_22.out hb)
  have Ry_23 := Lib.hid (cells_of Ry_22.out hb)
  have Rz_23 := Lib.hid (cells_of Rz_22.out hb)
  have Rtx_23 := Lib.hid (cells_of Rtx_22.out hb)
  have Rty_23 := Lib.hid (cells_of Rty_22.out hb)
  have Rtz_23 := Lib.hid (cells_of Rtz_22.out hb)
  have Rbd_23 := Lib.hid (cells_of Rbd_22.out hb)
  have Rbs_23 := Lib.hid (cells_of Rbs_22.out hb)
  have Rbp_23 := Lib.hid (cells_of Rbp_22.out hb)
  have Rbq_23 := Lib.hid (cells_of Rbq_22.out hb)
  have Rbt_23 := Lib.hid (cells_of Rbt_22.out hb)
  have Rbu_23 := Lib.hid (cells_of Rbu_22.out hb)
  have Rbv_23 := Lib.hid (cells_of Rbv_22.out hb)
  clear hb hd
  have fbd0 := row_c (i := 0) Rbd_23.out rfl
  have zbd0 := frozen_of_row _ _ 0 _ _ Rbd_23.out
  have fbd1 := row_c (i := 1) Rbd_23.out rfl
  have zbd1 := frozen_of_row _ _ 1 _ _ Rbd_23.out
  have fbd2 := row_c (i := 2) Rbd_23.out rfl
  have zbd2 := frozen_of_row _ _ 2 _ _ Rbd_23.out
  have xbd := heap_lt Rbd_23.out
  have ftz0 := row_c (i := 0) Rtz_23.out rfl
  have ztz0 := frozen_of_row _ _ 0 _ _ Rtz_23.out
  have ftz1 := row_c (i := 1) Rtz_23.out rfl
  have ztz1 := frozen_of_row _ _ 1 _ _ Rtz_23.out
  have ftz2 := row_c (i := 2) Rtz_23.out rfl
  have ztz2 := frozen_of_row _ _ 2 _ _ Rtz_23.out
  have xtz := heap_lt Rtz_23.out
  go_wp2_with fail
  obtain ⟨w24, hW⟩ : ∃ W : World, W = (w23.alloc (.cells #[.bool (decide (Mt < 0)), .slice A23 (digs Mt.natAbs).length c23, .int .i64 Et] 26)) := ⟨_, rfl⟩
  rw [← hW]
  have hb : Below w23.heap.size w23 w24 := by rw [hW]; exact ((Below.refl _ _).alloc (by simp <;> omega) _)
  have L24 := Lib.hid (L23.out.step hb)
  have Rx_24 := Lib.hid (cells_of Rx_23.out hb)
  have Ry_24 := Lib.hid (cells_of Ry_23.out hb)
  have Rz_24 := Lib.hid (cells_of Rz_23.out hb)
  have Rtx_24 := Lib.hid (cells_of Rtx_23.out hb)
  have Rty_24 := Lib.hid (cells_of Rty_23.out hb)
  have Rtz_24 := Lib.hid (cells_of Rtz_23.out hb)
  have Rbd_24 := Lib.hid (cells_of Rbd_23.out hb)
  have Rbs_24 := Lib.hid (cells_of Rbs_23.out hb)
  have Rbp_24 := Lib.hid (cells_of Rbp_23.out hb)
  have Rbq_24 := Lib.hid (cells_of Rbq_23.out hb)
  have Rbt_24 := Lib.hid (cells_of Rbt_23.out hb)
  have Rbu_24 := Lib.hid (cells_of Rbu_23.out hb)
  have Rbv_24 := Lib.hid (cells_of Rbv_23.out hb)
  have Rbj_24 := Lib.hid (show w24.heap[w23.heap.size]? = some (.cells #[.bool (decide (Mt < 0)), .slice A23 (digs Mt.natAbs).length c23, .int .i64 Et] 26 (0, 0)) by rw [hW]; have := heap_alloc_new w23 (.cells #[.bool (decide (Mt < 0)), .slice A23 (digs Mt.natAbs).length c23, .int .i64 Et] 26); simpa using this)
  have Gbj : w.heap.size ≤ w23.heap.size := by have := L23.out.1.size; omega
  have Nxbj : w.heap.size < w23.heap.size := by have := heap_lt Rx_23.out; omega
  have Nybj : w.heap.size + 1 < w23.heap.size := by have := heap_lt Ry_23.out; omega
  have Nzbj : w.heap.size + 1 + 1 < w23.heap.size := by have := heap_lt Rz_23.out; omega
  have Ntxbj : w3.heap.size < w23.heap.size := by have := heap_lt Rtx_23.out; omega
  have Ntybj : w5.heap.size < w23.heap.size := by have := heap_lt Rty_23.out; omega
  have Ntzbj : w7.heap.size < w23.heap.size := by have := heap_lt Rtz_23.out; omega
  have Nbdbj : w9.heap.size < w23.heap.size := by have := heap_lt Rbd_23.out; omega
  have Nbsbj : w11.heap.size < w23.heap.size := by have := heap_lt Rbs_23.out; omega
  have Nbpbj : w13.heap.size < w23.heap.size := by have := heap_lt Rbp_23.out; omega
  have Nbqbj : w15.heap.size < w23.heap.size := by have := heap_lt Rbq_23.out; omega
  have Nbtbj : w17.heap.size < w23.heap.size := by have := heap_lt Rbt_23.out; omega
  have Nbubj : w19.heap.size < w23.heap.size := by have := heap_lt Rbu_23.out; omega
  have Nbvbj : w21.heap.size < w23.heap.size := by have := heap_lt Rbv_23.out; omega
  clear hW hb
  clear fbd0 zbd0 fbd1 zbd1 fbd2 zbd2 xbd ftz0 ztz0 ftz1 ztz1 ftz2 ztz2 xtz
  refine (dsub_yes (m := Md) (x := Ed) (n := mz) (y := yz) (M := my) (E := yy) (L24.out.get (A := A9) (c := c9) (xs := digs Md.natAbs) (by simp)) (L24.out.get (A := A7) (c := c7) (xs := digs mz.natAbs) (by simp)) Dd.out Dz.out Rd.out Rz.out (t32_live HT.out L24.out) H9.out Ig.out).mono ?_
  rintro e w25 ⟨A25, c25, rfl, hd, hb⟩
  have L25 := Lib.hid ((L24.out.step hb).add hd)
  have Rx_25 := Lib.hid (cells_of Rx_24.out hb)
  have Ry_25 := Lib.hid (cells_of Ry_24.out hb)
  have Rz_25 := Lib.hid (cells_of Rz_24.out hb)
  have Rtx_25 := Lib.hid (cells_of Rtx_24.out hb)
  have Rty_25 := Lib.hid (cells_of Rty_24.out hb)
  have Rtz_25 := Lib.hid (cells_of Rtz_24.out hb)
  have Rbd_25 := Lib.hid (cells_of Rbd_24.out hb)
  have Rbs_25 := Lib.hid (cells_of Rbs_24.out hb)
  have Rbp_25 := Lib.hid (cells_of Rbp_24.out hb)
  have Rbq_25 := Lib.hid (cells_of Rbq_24.out hb)
  have Rbt_25 := Lib.hid (cells_of Rbt_24.out hb)
  have Rbu_25 := Lib.hid (cells_of Rbu_24.out hb)
  have Rbv_25 := Lib.hid (cells_of Rbv_24.out hb)
  have Rbj_25 := Lib.hid (cells_of Rbj_24.out hb)
  clear hb hd
  have fbs0 := row_c (i := 0) Rbs_25.out rfl
  have zbs0 := frozen_of_row _ _ 0 _ _ Rbs_25.out
  have fbs1 := row_c (i := 1) Rbs_25.out rfl
  have zbs1 := frozen_of_row _ _ 1 _ _ Rbs_25.out
  have fbs2 := row_c (i := 2) Rbs_25.out rfl
  have zbs2 := frozen_of_row _ _ 2 _ _ Rbs_25.out
  have xbs := heap_lt Rbs_25.out
  have fbt0 := row_c (i := 0) Rbt_25.out rfl
  have zbt0 := frozen_of_row _ _ 0 _ _ Rbt_25.out
  have fbt1 := row_c (i := 1) Rbt_25.out rfl
  have zbt1 := frozen_of_row _ _ 1 _ _ Rbt_25.out
  have fbt2 := row_c (i := 2) Rbt_25.out rfl
  have zbt2 := frozen_of_row _ _ 2 _ _ Rbt_25.out
  have xbt := heap_lt Rbt_25.out
  go_wp2_with fail
  obtain ⟨w26, hW⟩ : ∃ W : World, W = (w25.alloc (.cells #[.bool (decide (my < 0)), .slice A25 (digs my.natAbs).length c25, .int .i64 yy] 26)) := ⟨_, rfl⟩
  rw [← hW]
  have hb : Below w25.heap.size w25 w26 := by rw [hW]; exact ((Below.refl _ _).alloc (by simp <;> omega) _)
  have L26 := Lib.hid (L25.out.step hb)
  have Rx_26 := Lib.hid (cells_of Rx_25.out hb)
  have Ry_26 := Lib.hid (cells_of Ry_25.out hb)
  have Rz_26 := Lib.hid (cells_of Rz_25.out hb)
  have Rtx_26 := Lib.hid (cells_of Rtx_25.out hb)
  have Rty_26 := Lib.hid (cells_of Rty_25.out hb)
  have Rtz_26 := Lib.hid (cells_of Rtz_25.out hb)
  have Rbd_26 := Lib.hid (cells_of Rbd_25.out hb)
  have Rbs_26 := Lib.hid (cells_of Rbs_25.out hb)
  have Rbp_26 := Lib.hid (cells_of Rbp_25.out hb)
  have Rbq_26 := Lib.hid (cells_of Rbq_25.out hb)
  have Rbt_26 := Lib.hid (cells_of Rbt_25.out hb)
  have Rbu_26 := Lib.hid (cells_of Rbu_25.out hb)
  have Rbv_26 := Lib.hid (cells_of Rbv_25.out hb)
  have Rbj_26 := Lib.hid (cells_of Rbj_25.out hb)
  have Rbg_26 := Lib.hid (show w26.heap[w25.heap.size]? = some (.cells #[.bool (decide (my < 0)), .slice A25 (digs my.natAbs).length c25, .int .i64 yy] 26 (0, 0)) by rw [hW]; have := heap_alloc_new w25 (.cells #[.bool (decide (my < 0)), .slice A25 (digs my.natAbs).length c25, .int .i64 yy] 26); simpa using this)
  have Gbg : w.heap.size ≤ w25.heap.size := by have := L25.out.1.size; omega
  have Nxbg : w.heap.size < w25.heap.size := by have := heap_lt Rx_25.out; omega
  have Nybg : w.heap.size + 1 < w25.heap.size := by have := heap_lt Ry_25.out; omega
  have Nzbg : w.heap.size + 1 + 1 < w25.heap.size := by have := heap_lt Rz_25.out; omega
  have Ntxbg : w3.heap.size < w25.heap.size := by have := heap_lt Rtx_25.out; omega
  have Ntybg : w5.heap.size < w25.heap.size := by have := heap_lt Rty_25.out; omega
  have Ntzbg : w7.heap.size < w25.heap.size := by have := heap_lt Rtz_25.out; omega
  have Nbdbg : w9.heap.size < w25.heap.size := by have := heap_lt Rbd_25.out; omega
  have Nbsbg : w11.heap.size < w25.heap.size := by have := heap_lt Rbs_25.out; omega
  have Nbpbg : w13.heap.size < w25.heap.size := by have := heap_lt Rbp_25.out; omega
  have Nbqbg : w15.heap.size < w25.heap.size := by have := heap_lt Rbq_25.out; omega
  have Nbtbg : w17.heap.size < w25.heap.size := by have := heap_lt Rbt_25.out; omega
  have Nbubg : w19.heap.size < w25.heap.size := by have := heap_lt Rbu_25.out; omega
  have Nbvbg : w21.heap.size < w25.heap.size := by have := heap_lt Rbv_25.out; omega
  have Nbjbg : w23.heap.size < w25.heap.size := by have := heap_lt Rbj_25.out; omega
  clear hW hb
  clear fbs0 zbs0 fbs1 zbs1 fbs2 zbs2 xbs fbt0 zbt0 fbt1 zbt1 fbt2 zbt2 xbt
  refine (dsame_d (m := Ms) (n := Ms) (x := Es) (y := Es) (q := true) (L26.out.get (A := A11) (c := c11) (xs := digs Ms.natAbs) (by simp)) (L26.out.get (A := A17) (c := c17) (xs := digs Ms.natAbs) (by simp)) Ds.out (by simp)).mono ?_
  rintro e w27 ⟨rfl, hb⟩
  have L27 := Lib.hid (L26.out.step hb)
  have Rx_27 := Lib.hid (cells_of Rx_26.out hb)
  have Ry_27 := Lib.hid (cells_of Ry_26.out hb)
  have Rz_27 := Lib.hid (cells_of Rz_26.out hb)
  have Rtx_27 := Lib.hid (cells_of Rtx_26.out hb)
  have Rty_27 := Lib.hid (cells_of Rty_26.out hb)
  have Rtz_27 := Lib.hid (cells_of Rtz_26.out hb)
  have Rbd_27 := Lib.hid (cells_of Rbd_26.out hb)
  have Rbs_27 := Lib.hid (cells_of Rbs_26.out hb)
  have Rbp_27 := Lib.hid (cells_of Rbp_26.out hb)
  have Rbq_27 := Lib.hid (cells_of Rbq_26.out hb)
  have Rbt_27 := Lib.hid (cells_of Rbt_26.out hb)
  have Rbu_27 := Lib.hid (cells_of Rbu_26.out hb)
  have Rbv_27 := Lib.hid (cells_of Rbv_26.out hb)
  have Rbj_27 := Lib.hid (cells_of Rbj_26.out hb)
  have Rbg_27 := Lib.hid (cells_of Rbg_26.out hb)
  clear hb 
  have fbu0 := row_c (i := 0) Rbu_27.out rfl
  have zbu0 := frozen_of_row _ _ 0 _ _ Rbu_27.out
  have fbu1 := row_c (i := 1) Rbu_27.out rfl
  have zbu1 := frozen_of_row _ _ 1 _ _ Rbu_27.out
  have fbu2 := row_c (i := 2) Rbu_27.out rfl
  have zbu2 := frozen_of_row _ _ 2 _ _ Rbu_27.out
  have xbu := heap_lt Rbu_27.out
  have fbj0 := row_c (i := 0) Rbj_27.out rfl
  have zbj0 := frozen_of_row _ _ 0 _ _ Rbj_27.out
  have fbj1 := row_c (i := 1) Rbj_27.out rfl
  have zbj1 := frozen_of_row _ _ 1 _ _ Rbj_27.out
  have fbj2 := row_c (i := 2) Rbj_27.out rfl
  have zbj2 := frozen_of_row _ _ 2 _ _ Rbj_27.out
  have xbj := heap_lt Rbj_27.out
  go_wp2_with fail
  refine (dsame_d (m := Mt) (n := Mt) (x := Et) (y := Et) (q := true) (L27.out.get (A := A19) (c := c19) (xs := digs Mt.natAbs) (by simp)) (L27.out.get (A := A23) (c := c23) (xs := digs Mt.natAbs) (by simp)) Du.out (by simp)).mono ?_
  rintro e w28 ⟨rfl, hb⟩
  have L28 := Lib.hid (L27.out.step hb)
  clear fbu0 zbu0 fbu1 zbu1 fbu2 zbu2 xbu fbj0 zbj0 fbj1 zbj1 fbj2 zbj2 xbj
  have Rx_28 := Lib.hid (cells_of Rx_27.out hb)
  have Ry_28 := Lib.hid (cells_of Ry_27.out hb)
  have Rz_28 := Lib.hid (cells_of Rz_27.out hb)
  have Rtx_28 := Lib.hid (cells_of Rtx_27.out hb)
  have Rty_28 := Lib.hid (cells_of Rty_27.out hb)
  have Rtz_28 := Lib.hid (cells_of Rtz_27.out hb)
  have Rbd_28 := Lib.hid (cells_of Rbd_27.out hb)
  have Rbs_28 := Lib.hid (cells_of Rbs_27.out hb)
  have Rbp_28 := Lib.hid (cells_of Rbp_27.out hb)
  have Rbq_28 := Lib.hid (cells_of Rbq_27.out hb)
  have Rbt_28 := Lib.hid (cells_of Rbt_27.out hb)
  have Rbu_28 := Lib.hid (cells_of Rbu_27.out hb)
  have Rbv_28 := Lib.hid (cells_of Rbv_27.out hb)
  have Rbj_28 := Lib.hid (cells_of Rbj_27.out hb)
  have Rbg_28 := Lib.hid (cells_of Rbg_27.out hb)
  clear hb 
  have fbg0 := row_c (i := 0) Rbg_28.out rfl
  have zbg0 := frozen_of_row _ _ 0 _ _ Rbg_28.out
  have fbg1 := row_c (i := 1) Rbg_28.out rfl
  have zbg1 := frozen_of_row _ _ 1 _ _ Rbg_28.out
  have fbg2 := row_c (i := 2) Rbg_28.out rfl
  have zbg2 := frozen_of_row _ _ 2 _ _ Rbg_28.out
  have xbg := heap_lt Rbg_28.out
  have fty0 := row_c (i := 0) Rty_28.out rfl
  have zty0 := frozen_of_row _ _ 0 _ _ Rty_28.out
  have fty1 := row_c (i := 1) Rty_28.out rfl
  have zty1 := frozen_of_row _ _ 1 _ _ Rty_28.out
  have fty2 := row_c (i := 2) Rty_28.out rfl
  have zty2 := frozen_of_row _ _ 2 _ _ Rty_28.out
  have xty := heap_lt Rty_28.out
  go_wp2_with fail
  refine (dsame_d (m := my) (n := my) (x := yy) (y := yy) (q := true) (L28.out.get (A := A25) (c := c25) (xs := digs my.natAbs) (by simp)) (L28.out.get (A := A5) (c := c5) (xs := digs my.natAbs) (by simp)) Dg.out (by simp)).mono ?_
  rintro e w29 ⟨rfl, hb⟩
  have L29 := Lib.hid (L28.out.step hb)
  clear fbg0 zbg0 fbg1 zbg1 fbg2 zbg2 xbg fty0 zty0 fty1 zty1 fty2 zty2 xty
  have Rx_29 := Lib.hid (cells_of Rx_28.out hb)
  have Ry_29 := Lib.hid (cells_of Ry_28.out hb)
  have Rz_29 := Lib.hid (cells_of Rz_28.out hb)
  have Rtx_29 := Lib.hid (cells_of Rtx_28.out hb)
  have Rty_29 := Lib.hid (cells_of Rty_28.out hb)
  have Rtz_29 := Lib.hid (cells_of Rtz_28.out hb)
  have Rbd_29 := Lib.hid (cells_of Rbd_28.out hb)
  have Rbs_29 := Lib.hid (cells_of Rbs_28.out hb)
  have Rbp_29 := Lib.hid (cells_of Rbp_28.out hb)
  have Rbq_29 := Lib.hid (cells_of Rbq_28.out hb)
  have Rbt_29 := Lib.hid (cells_of Rbt_28.out hb)
  have Rbu_29 := Lib.hid (cells_of Rbu_28.out hb)
  have Rbv_29 := Lib.hid (cells_of Rbv_28.out hb)
  have Rbj_29 := Lib.hid (cells_of Rbj_28.out hb)
  have Rbg_29 := Lib.hid (cells_of Rbg_28.out hb)
  clear hb 
  have fbs0 := row_c (i := 0) Rbs_29.out rfl
  have zbs0 := frozen_of_row _ _ 0 _ _ Rbs_29.out
  have fbs1 := row_c (i := 1) Rbs_29.out rfl
  have zbs1 := frozen_of_row _ _ 1 _ _ Rbs_29.out
  have fbs2 := row_c (i := 2) Rbs_29.out rfl
  have zbs2 := frozen_of_row _ _ 2 _ _ Rbs_29.out
  have xbs := heap_lt Rbs_29.out
  go_wp2_with fail
  refine (dright_any A11 c11 (decide (Ms < 0)) (digs Ms.natAbs) Es _ (L29.out.get (A := A11) (c := c11) (xs := digs Ms.natAbs) (by simp)) true (dyR_num Rs.out) (Nat.le_trans Ds.out (by omega))).mono ?_
  rintro e w30 ⟨rfl, hb⟩
  have L30 := Lib.hid (L29.out.step hb)
  clear fbs0 zbs0 fbs1 zbs1 fbs2 zbs2 xbs
  have Rx_30 := Lib.hid (cells_of Rx_29.out hb)
  have Ry_30 := Lib.hid (cells_of Ry_29.out hb)
  have Rz_30 := Lib.hid (cells_of Rz_29.out hb)
  have Rtx_30 := Lib.hid (cells_of Rtx_29.out hb)
  have Rty_30 := Lib.hid (cells_of Rty_29.out hb)
  have Rtz_30 := Lib.hid (cells_of Rtz_29.out hb)
  have Rbd_30 := Lib.hid (cells_of Rbd_29.out hb)
  have Rbs_30 := Lib.hid (cells_of Rbs_29.out hb)
  have Rbp_30 := Lib.hid (cells_of Rbp_29.out hb)
  have Rbq_30 := Lib.hid (cells_of Rbq_29.out hb)
  have Rbt_30 := Lib.hid (cells_of Rbt_29.out hb)
  have Rbu_30 := Lib.hid (cells_of Rbu_29.out hb)
  have Rbv_30 := Lib.hid (cells_of Rbv_29.out hb)
  have Rbj_30 := Lib.hid (cells_of Rbj_29.out hb)
  have Rbg_30 := Lib.hid (cells_of Rbg_29.out hb)
  clear hb 
  go_wp2
  go_ret
  exact ⟨rfl, L30.out.1⟩

set_option maxHeartbeats 8000000 in
set_option maxRecDepth 100000 in
theorem dyadLaws_p  (Ax : Option Addr) (cx : Nat) (sx : Bool) (xsx : List Nat) (ex : Int) (Ay : Option Addr) (cy : Nat) (sy : Bool) (xsy : List Nat) (ey : Int) (Az : Option Addr) (cz : Nat) (sz : Bool) (xsz : List Nat) (ez : Int) (n : Int) (w : World)  (hx : Dg w Ax cx xsx) (lx : xsx.length ≤ 9223372036854775807) (ex0 : -9223372036854775808 ≤ ex) (ex1 : ex ≤ 9223372036854775807) (hy : Dg w Ay cy xsy) (ly : xsy.length ≤ 9223372036854775807) (ey0 : -9223372036854775808 ≤ ey) (ey1 : ey ≤ 9223372036854775807) (hz : Dg w Az cz xsz) (lz : xsz.length ≤ 9223372036854775807) (ez0 : -9223372036854775808 ≤ ez) (ez1 : ez ≤ 9223372036854775807) (n0 : -9223372036854775808 ≤ n) (n1 : n ≤ 9223372036854775807) (hT : T32 w) (hn : 0 ≤ n):
    Calls Tryd.prog 9 #[.agg #[.bool sx, .slice Ax xsx.length cx, .int .i64 ex], .agg #[.bool sy, .slice Ay xsy.length cy, .int .i64 ey], .agg #[.bool sz, .slice Az xsz.length cz, .int .i64 ez], .int .i64 n] w fun e w' => e = .returned (.bool true) ∧ Below w.heap.size w w' := by
  obtain ⟨mx, hmx⟩ : ∃ m, nm (sg sx (val (xsx.take 6))) = m := ⟨_, rfl⟩
  obtain ⟨yx, hyx⟩ : ∃ m, nx (sg sx (val (xsx.take 6))) (tameE ex) = m := ⟨_, rfl⟩
  have tx : Tm mx yx := hmx ▸ hyx ▸ tame_tm hx.2.1
  have bx := tx.bd
  have HMx := Lib.hid hmx
  have HYx := Lib.hid hyx
  have LXx := Lib.hid lx
  have E0x := Lib.hid ex0
  have E1x := Lib.hid ex1
  have Rx := Lib.hid tx.rt
  have Ix := Lib.hid tx.inR
  have Dx := Lib.hid (inr_len tx.inR)
  obtain ⟨my, hmy⟩ : ∃ m, nm (sg sy (val (xsy.take 6))) = m := ⟨_, rfl⟩
  obtain ⟨yy, hyy⟩ : ∃ m, nx (sg sy (val (xsy.take 6))) (tameE ey) = m := ⟨_, rfl⟩
  have ty : Tm my yy := hmy ▸ hyy ▸ tame_tm hy.2.1
  skip
  have HMy := Lib.hid hmy
  have HYy := Lib.hid hyy
  have LXy := Lib.hid ly
  have E0y := Lib.hid ey0
  have E1y := Lib.hid ey1
  have Ry := Lib.hid ty.rt
  have Iy := Lib.hid ty.inR
  have Dy := Lib.hid (inr_len ty.inR)
  obtain ⟨mz, hmz⟩ : ∃ m, nm (sg sz (val (xsz.take 6))) = m := ⟨_, rfl⟩
  obtain ⟨yz, hyz⟩ : ∃ m, nx (sg sz (val (xsz.take 6))) (tameE ez) = m := ⟨_, rfl⟩
  have tz : Tm mz yz := hmz ▸ hyz ▸ tame_tm hz.2.1
  have bz := tz.bd
  have HMz := Lib.hid hmz
  have HYz := Lib.hid hyz
  have LXz := Lib.hid lz
  have E0z := Lib.hid ez0
  have E1z := Lib.hid ez1
  have Rz := Lib.hid tz.rt
  have Iz := Lib.hid tz.inR
  have Dz := Lib.hid (inr_len tz.inR)
  have byy := ty.bd
  obtain ⟨Md, Ed, i1⟩ := isD_add my yy mz yz
  have b1 := byy.add bz i1
  obtain ⟨Ms, Es, i2⟩ := isD_mul mx yx Md Ed
  have b2 := bx.mul b1 i2
  obtain ⟨Mp, Ep, i3⟩ := isD_mul mx yx my yy
  have b3 := bx.mul byy i3
  obtain ⟨Mq, Eq, i4⟩ := isD_mul mx yx mz yz
  have b4 := bx.mul bz i4
  have i5 : IsD (dv Mq Eq + dv Mp Ep) Ms Es := ⟨i2.1, by rw [i2.2, i1.2, i4.2, i3.2]; grind⟩
  obtain ⟨r, hr⟩ : ∃ r, (n).tmod 601 = r := ⟨_, rfl⟩
  have hr2 := Int.tmod_eq_emod_of_nonneg (b := 601) (show 0 ≤ n by omega)
  rw [hr] at hr2
  have r0 : 0 ≤ r := by omega
  have r9 : r ≤ 600 := by omega
  clear hr2
  obtain ⟨Mt, Et, i6⟩ := isD_ex Ms (Es + (r - 300))
  have b6 := b2.scale i6
  obtain ⟨Mu, Eu, i7⟩ := isD_ex mx (yx + (r - 300))
  have b7 := bx.scale i7
  have i8 : IsD (dv Md Ed * dv Mu Eu) Mt Et := ⟨i6.1, by rw [i6.2, i7.2, dv_scale, dv_scale, i2.2]; grind⟩
  have i9 : IsD (dv Md Ed - dv mz yz) my yy := ⟨byy.1, by rw [i1.2]; grind⟩
  have D0 := Lib.hid (show decide (n < 0) = false by simp; omega)
  have HR0 := Lib.hid hr
  have R0 := Lib.hid r0
  have R9 := Lib.hid r9
  have N0 := Lib.hid n0
  have N1 := Lib.hid n1
  have NN := Lib.hid hn
  have Rd := Lib.hid (Bd.rt b1 (by omega) (by omega))
  have Id := Lib.hid (Bd.inR b1 (by omega) (by omega))
  have Dd := Lib.hid (inr_len Id.out)
  have Rs := Lib.hid (Bd.rt b2 (by omega) (by omega))
  have Is := Lib.hid (Bd.inR b2 (by omega) (by omega))
  have Ds := Lib.hid (inr_len Is.out)
  have Rp := Lib.hid (Bd.rt b3 (by omega) (by omega))
  have Ip := Lib.hid (Bd.inR b3 (by omega) (by omega))
  have Dp := Lib.hid (inr_len Ip.out)
  have Rq := Lib.hid (Bd.rt b4 (by omega) (by omega))
  have Iq := Lib.hid (Bd.inR b4 (by omega) (by omega))
  have Dq := Lib.hid (inr_len Iq.out)
  have Rt := Lib.hid (Bd.rt b2 (by omega) (by omega))
  have It := Lib.hid (Bd.inR b2 (by omega) (by omega))
  have Dt := Lib.hid (inr_len It.out)
  have Ru := Lib.hid (Bd.rt b6 (by omega) (by omega))
  have Iu := Lib.hid (Bd.inR b6 (by omega) (by omega))
  have Du := Lib.hid (inr_len Iu.out)
  have Rv := Lib.hid (Bd.rt b7 (by omega) (by omega))
  have Iv := Lib.hid (Bd.inR b7 (by omega) (by omega))
  have Dv := Lib.hid (inr_len Iv.out)
  have Rj := Lib.hid (Bd.rt b6 (by omega) (by omega))
  have Ij := Lib.hid (Bd.inR b6 (by omega) (by omega))
  have Dj := Lib.hid (inr_len Ij.out)
  have Rg := Lib.hid (Bd.rt byy (by omega) (by omega))
  have Ig := Lib.hid (Bd.inR byy (by omega) (by omega))
  have Dg := Lib.hid (inr_len Ig.out)
  have H1 := Lib.hid i1
  have H2 := Lib.hid i2
  have H3 := Lib.hid i3
  have H4 := Lib.hid i4
  have H5 := Lib.hid i5
  have H6 := Lib.hid i6
  have H7 := Lib.hid i7
  have H8 := Lib.hid i8
  have H9 := Lib.hid i9
  have HT := Lib.hid hT
  clear hT
  have L0 := Lib.hid ((((live_start w).add hx).add hy).add hz)
  clear hx lx ex0 ex1 hmx hyx tx bx hy ly ey0 ey1 hmy hyy ty lz ez0 ez1 hmz hyz tz bz n0 n1 hn byy hr r0 r9 i1 i2 i3 i4 i5 i6 i7 i8 i9 b1 b2 b3 b4 b6 b7
  go_enter Tryd.func9, Tryd.ntmps9
  go_wp2_with fail
  obtain ⟨v1, hW⟩ : ∃ W : World, W = (((w.alloc (.cells #[.bool sx, .slice Ax xsx.length cx, .int .i64 ex] 26)).alloc (.cells #[.bool sy, .slice Ay xsy.length cy, .int .i64 ey] 26)).alloc (.cells #[.bool sz, .slice Az xsz.length cz, .int .i64 ez] 26)) := ⟨_, rfl⟩
  rw [← hW]
  have hb : Below w.heap.size w v1 := by rw [hW]; exact ((((Below.refl _ _).alloc (by simp <;> omega) _).alloc (by simp <;> omega) _).alloc (by simp <;> omega) _)
  have L1 := Lib.hid (L0.out.step hb)
  have Rx_1 := Lib.hid (show v1.heap[w.heap.size]? = some (.cells #[.bool sx, .slice Ax xsx.length cx, .int .i64 ex] 26 (0, 0)) by rw [hW]; have := heap_alloc_new w (.cells #[.bool sx, .slice Ax xsx.length cx, .int .i64 ex] 26); rw [heap_alloc_old _ _ (by simp <;> omega)]; rw [heap_alloc_old _ _ (by simp <;> omega)]; simpa using this)
  have Gx : w.heap.size ≤ w.heap.size := by have := L0.out.1.size; omega
  have Ry_1 := Lib.hid (show v1.heap[w.heap.size + 1]? = some (.cells #[.bool sy, .slice Ay xsy.length cy, .int .i64 ey] 26 (0, 0)) by rw [hW]; have := heap_alloc_new (w.alloc (.cells #[.bool sx, .slice Ax xsx.length cx, .int .i64 ex] 26)) (.cells #[.bool sy, .slice Ay xsy.length cy, .int .i64 ey] 26); rw [heap_alloc_old _ _ (by simp <;> omega)]; simpa using this)
  have Gy : w.heap.size ≤ w.heap.size + 1 := by have := L0.out.1.size; omega
  have Nxy : w.heap.size < w.heap.size + 1 := by omega
  have Rz_1 := Lib.hid (show v1.heap[w.heap.size + 1 + 1]? = some (.cells #[.bool sz, .slice Az xsz.length cz, .int .i64 ez] 26 (0, 0)) by rw [hW]; have := heap_alloc_new ((w.alloc (.cells #[.bool sx, .slice Ax xsx.length cx, .int .i64 ex] 26)).alloc (.cells #[.bool sy, .slice Ay xsy.length cy, .int .i64 ey] 26)) (.cells #[.bool sz, .slice Az xsz.length cz, .int .i64 ez] 26); simpa using this)
  have Gz : w.heap.size ≤ w.heap.size + 1 + 1 := by have := L0.out.1.size; omega
  have Nxz : w.heap.size < w.heap.size + 1 + 1 := by omega
  have Nyz : w.heap.size + 1 < w.heap.size + 1 + 1 := by omega
  clear hW hb
  refine (dexamples_any _ (t32_live HT.out L1.out)).mono ?_
  rintro e w2 ⟨rfl, hb⟩
  have L2 := Lib.hid (L1.out.step hb)
  have Rx_2 := Lib.hid (cells_of Rx_1.out hb)
  have Ry_2 := Lib.hid (cells_of Ry_1.out hb)
  have Rz_2 := Lib.hid (cells_of Rz_1.out hb)
  clear hb 
  have fx0 := row_c (i := 0) Rx_2.out rfl
  have zx0 := frozen_of_row _ _ 0 _ _ Rx_2.out
  have fx1 := row_c (i := 1) Rx_2.out rfl
  have zx1 := frozen_of_row _ _ 1 _ _ Rx_2.out
  have fx2 := row_c (i := 2) Rx_2.out rfl
  have zx2 := frozen_of_row _ _ 2 _ _ Rx_2.out
  have xx := heap_lt Rx_2.out
  go_wp2_with fail
  refine (tame_any (M := mx) (E := yx) (L2.out.get (A := Ax) (c := cx) (xs := xsx) (by simp)) (t32_live HT.out L2.out) LXx.out E0x.out E1x.out HMx.out HYx.out).mono ?_
  rintro e w3 ⟨A3, c3, rfl, hd, hb⟩
  have L3 := Lib.hid ((L2.out.step hb).add hd)
  clear fx0 zx0 fx1 zx1 fx2 zx2 xx
  have Rx_3 := Lib.hid (cells_of Rx_2.out hb)
  have Ry_3 := Lib.hid (cells_of Ry_2.out hb)
  have Rz_3 := Lib.hid (cells_of Rz_2.out hb)
  clear hb hd
  have fy0 := row_c (i := 0) Ry_3.out rfl
  have zy0 := frozen_of_row _ _ 0 _ _ Ry_3.out
  have fy1 := row_c (i := 1) Ry_3.out rfl
  have zy1 := frozen_of_row _ _ 1 _ _ Ry_3.out
  have fy2 := row_c (i := 2) Ry_3.out rfl
  have zy2 := frozen_of_row _ _ 2 _ _ Ry_3.out
  have xy := heap_lt Ry_3.out
  go_wp2_with fail
  obtain ⟨w4, hW⟩ : ∃ W : World, W = (w3.alloc (.cells #[.bool (decide (mx < 0)), .slice A3 (digs mx.natAbs).length c3, .int .i64 yx] 26)) := ⟨_, rfl⟩
  rw [← hW]
  have hb : Below w3.heap.size w3 w4 := by rw [hW]; exact ((Below.refl _ _).alloc (by simp <;> omega) _)
  have L4 := Lib.hid (L3.out.step hb)
  have Rx_4 := Lib.hid (cells_of Rx_3.out hb)
  have Ry_4 := Lib.hid (cells_of Ry_3.out hb)
  have Rz_4 := Lib.hid (cells_of Rz_3.out hb)
  have Rtx_4 := Lib.hid (show w4.heap[w3.heap.size]? = some (.cells #[.bool (decide (mx < 0)), .slice A3 (digs mx.natAbs).length c3, .int .i64 yx] 26 (0, 0)) by rw [hW]; have := heap_alloc_new w3 (.cells #[.bool (decide (mx < 0)), .slice A3 (digs mx.natAbs).length c3, .int .i64 yx] 26); simpa using this)
  have Gtx : w.heap.size ≤ w3.heap.size := by have := L3.out.1.size; omega
  have Nxtx : w.heap.size < w3.heap.size := by have := heap_lt Rx_3.out; omega
  have Nytx : w.heap.size + 1 < w3.heap.size := by have := heap_lt Ry_3.out; omega
  have Nztx : w.heap.size + 1 + 1 < w3.heap.size := by have := heap_lt Rz_3.out; omega
  clear hW hb
  clear fy0 zy0 fy1 zy1 fy2 zy2 xy
  refine (tame_any (M := my) (E := yy) (L4.out.get (A := Ay) (c := cy) (xs := xsy) (by simp)) (t32_live HT.out L4.out) LXy.out E0y.out E1y.out HMy.out HYy.out).mono ?_
  rintro e w5 ⟨A5, c5, rfl, hd, hb⟩
  have L5 := Lib.hid ((L4.out.step hb).add hd)
  have Rx_5 := Lib.hid (cells_of Rx_4.out hb)
  have Ry_5 := Lib.hid (cells_of Ry_4.out hb)
  have Rz_5 := Lib.hid (cells_of Rz_4.out hb)
  have Rtx_5 := Lib.hid (cells_of Rtx_4.out hb)
  clear hb hd
  have fz0 := row_c (i := 0) Rz_5.out rfl
  have zz0 := frozen_of_row _ _ 0 _ _ Rz_5.out
  have fz1 := row_c (i := 1) Rz_5.out rfl
  have zz1 := frozen_of_row _ _ 1 _ _ Rz_5.out
  have fz2 := row_c (i := 2) Rz_5.out rfl
  have zz2 := frozen_of_row _ _ 2 _ _ Rz_5.out
  have xz := heap_lt Rz_5.out
  go_wp2_with fail
  obtain ⟨w6, hW⟩ : ∃ W : World, W = (w5.alloc (.cells #[.bool (decide (my < 0)), .slice A5 (digs my.natAbs).length c5, .int .i64 yy] 26)) := ⟨_, rfl⟩
  rw [← hW]
  have hb : Below w5.heap.size w5 w6 := by rw [hW]; exact ((Below.refl _ _).alloc (by simp <;> omega) _)
  have L6 := Lib.hid (L5.out.step hb)
  have Rx_6 := Lib.hid (cells_of Rx_5.out hb)
  have Ry_6 := Lib.hid (cells_of Ry_5.out hb)
  have Rz_6 := Lib.hid (cells_of Rz_5.out hb)
  have Rtx_6 := Lib.hid (cells_of Rtx_5.out hb)
  have Rty_6 := Lib.hid (show w6.heap[w5.heap.size]? = some (.cells #[.bool (decide (my < 0)), .slice A5 (digs my.natAbs).length c5, .int .i64 yy] 26 (0, 0)) by rw [hW]; have := heap_alloc_new w5 (.cells #[.bool (decide (my < 0)), .slice A5 (digs my.natAbs).length c5, .int .i64 yy] 26); simpa using this)
  have Gty : w.heap.size ≤ w5.heap.size := by have := L5.out.1.size; omega
  have Nxty : w.heap.size < w5.heap.size := by have := heap_lt Rx_5.out; omega
  have Nyty : w.heap.size + 1 < w5.heap.size := by have := heap_lt Ry_5.out; omega
  have Nzty : w.heap.size + 1 + 1 < w5.heap.size := by have := heap_lt Rz_5.out; omega
  have Ntxty : w3.heap.size < w5.heap.size := by have := heap_lt Rtx_5.out; omega
  clear hW hb
  clear fz0 zz0 fz1 zz1 fz2 zz2 xz
  refine (tame_any (M := mz) (E := yz) (L6.out.get (A := Az) (c := cz) (xs := xsz) (by simp)) (t32_live HT.out L6.out) LXz.out E0z.out E1z.out HMz.out HYz.out).mono ?_
  rintro e w7 ⟨A7, c7, rfl, hd, hb⟩
  have L7 := Lib.hid ((L6.out.step hb).add hd)
  have Rx_7 := Lib.hid (cells_of Rx_6.out hb)
  have Ry_7 := Lib.hid (cells_of Ry_6.out hb)
  have Rz_7 := Lib.hid (cells_of Rz_6.out hb)
  have Rtx_7 := Lib.hid (cells_of Rtx_6.out hb)
  have Rty_7 := Lib.hid (cells_of Rty_6.out hb)
  clear hb hd
  have d1 := D0.out
  have hr := HR0.out
  have r0 := R0.out
  have r9 := R9.out
  have n0 := N0.out
  have n1 := N1.out
  have hn := NN.out
  have fty0 := row_c (i := 0) Rty_7.out rfl
  have zty0 := frozen_of_row _ _ 0 _ _ Rty_7.out
  have fty1 := row_c (i := 1) Rty_7.out rfl
  have zty1 := frozen_of_row _ _ 1 _ _ Rty_7.out
  have fty2 := row_c (i := 2) Rty_7.out rfl
  have zty2 := frozen_of_row _ _ 2 _ _ Rty_7.out
  have xty := heap_lt Rty_7.out
  go_wp2_with fail
  obtain ⟨w8, hW⟩ : ∃ W : World, W = (w7.alloc (.cells #[.bool (decide (mz < 0)), .slice A7 (digs mz.natAbs).length c7, .int .i64 yz] 26)) := ⟨_, rfl⟩
  rw [← hW]
  have hb : Below w7.heap.size w7 w8 := by rw [hW]; exact ((Below.refl _ _).alloc (by simp <;> omega) _)
  have L8 := Lib.hid (L7.out.step hb)
  have Rx_8 := Lib.hid (cells_of Rx_7.out hb)
  have Ry_8 := Lib.hid (cells_of Ry_7.out hb)
  have Rz_8 := Lib.hid (cells_of Rz_7.out hb)
  have Rtx_8 := Lib.hid (cells_of Rtx_7.out hb)
  have Rty_8 := Lib.hid (cells_of Rty_7.out hb)
  have Rtz_8 := Lib.hid (show w8.heap[w7.heap.size]? = some (.cells #[.bool (decide (mz < 0)), .slice A7 (digs mz.natAbs).length c7, .int .i64 yz] 26 (0, 0)) by rw [hW]; have := heap_alloc_new w7 (.cells #[.bool (decide (mz < 0)), .slice A7 (digs mz.natAbs).length c7, .int .i64 yz] 26); simpa using this)
  have Gtz : w.heap.size ≤ w7.heap.size := by have := L7.out.1.size; omega
  have Nxtz : w.heap.size < w7.heap.size := by have := heap_lt Rx_7.out; omega
  have Nytz : w.heap.size + 1 < w7.heap.size := by have := heap_lt Ry_7.out; omega
  have Nztz : w.heap.size + 1 + 1 < w7.heap.size := by have := heap_lt Rz_7.out; omega
  have Ntxtz : w3.heap.size < w7.heap.size := by have := heap_lt Rtx_7.out; omega
  have Ntytz : w5.heap.size < w7.heap.size := by have := heap_lt Rty_7.out; omega
  clear hW hb
  clear fty0 zty0 fty1 zty1 fty2 zty2 xty
  refine (dadd_yes (m := my) (x := yy) (n := mz) (y := yz) (M := Md) (E := Ed) (L8.out.get (A := A5) (c := c5) (xs := digs my.natAbs) (by simp)) (L8.out.get (A := A7) (c := c7) (xs := digs mz.natAbs) (by simp)) Dy.out Dz.out Ry.out Rz.out (t32_live HT.out L8.out) H1.out Id.out).mono ?_
  rintro e w9 ⟨A9, c9, rfl, hd, hb⟩
  have L9 := Lib.hid ((L8.out.step hb).add hd)
  have Rx_9 := Lib.hid (cells_of Rx_8.out hb)
  have Ry_9 := Lib.hid (cells_of Ry_8.out hb)
  have Rz_9 := Lib.hid (cells_of Rz_8.out hb)
  have Rtx_9 := Lib.hid (cells_of Rtx_8.out hb)
  have Rty_9 := Lib.hid (cells_of Rty_8.out hb)
  have Rtz_9 := Lib.hid (cells_of Rtz_8.out hb)
  clear hb hd
  clear d1 hr n0 n1 hn
  have ftx0 := row_c (i := 0) Rtx_9.out rfl
  have ztx0 := frozen_of_row _ _ 0 _ _ Rtx_9.out
  have ftx1 := row_c (i := 1) Rtx_9.out rfl
  have ztx1 := frozen_of_row _ _ 1 _ _ Rtx_9.out
  have ftx2 := row_c (i := 2) Rtx_9.out rfl
  have ztx2 := frozen_of_row _ _ 2 _ _ Rtx_9.out
  have xtx := heap_lt Rtx_9.out
  go_wp2_with fail
  obtain ⟨w10, hW⟩ : ∃ W : World, W = (w9.alloc (.cells #[.bool (decide (Md < 0)), .slice A9 (digs Md.natAbs).length c9, .int .i64 Ed] 26)) := ⟨_, rfl⟩
  rw [← hW]
  have hb : Below w9.heap.size w9 w10 := by rw [hW]; exact ((Below.refl _ _).alloc (by simp <;> omega) _)
  have L10 := Lib.hid (L9.out.step hb)
  have Rx_10 := Lib.hid (cells_of Rx_9.out hb)
  have Ry_10 := Lib.hid (cells_of Ry_9.out hb)
  have Rz_10 := Lib.hid (cells_of Rz_9.out hb)
  have Rtx_10 := Lib.hid (cells_of Rtx_9.out hb)
  have Rty_10 := Lib.hid (cells_of Rty_9.out hb)
  have Rtz_10 := Lib.hid (cells_of Rtz_9.out hb)
  have Rbd_10 := Lib.hid (show w10.heap[w9.heap.size]? = some (.cells #[.bool (decide (Md < 0)), .slice A9 (digs Md.natAbs).length c9, .int .i64 Ed] 26 (0, 0)) by rw [hW]; have := heap_alloc_new w9 (.cells #[.bool (decide (Md < 0)), .slice A9 (digs Md.natAbs).length c9, .int .i64 Ed] 26); simpa using this)
  have Gbd : w.heap.size ≤ w9.heap.size := by have := L9.out.1.size; omega
  have Nxbd : w.heap.size < w9.heap.size := by have := heap_lt Rx_9.out; omega
  have Nybd : w.heap.size + 1 < w9.heap.size := by have := heap_lt Ry_9.out; omega
  have Nzbd : w.heap.size + 1 + 1 < w9.heap.size := by have := heap_lt Rz_9.out; omega
  have Ntxbd : w3.heap.size < w9.heap.size := by have := heap_lt Rtx_9.out; omega
  have Ntybd : w5.heap.size < w9.heap.size := by have := heap_lt Rty_9.out; omega
  have Ntzbd : w7.heap.size < w9.heap.size := by have := heap_lt Rtz_9.out; omega
  clear hW hb
  clear ftx0 ztx0 ftx1 ztx1 ftx2 ztx2 xtx
  refine (dmul_yes (m := mx) (x := yx) (n := Md) (y := Ed) (M := Ms) (E := Es) (L10.out.get (A := A3) (c := c3) (xs := digs mx.natAbs) (by simp)) (L10.out.get (A := A9) (c := c9) (xs := digs Md.natAbs) (by simp)) Dx.out Dd.out Rx.out Rd.out (t32_live HT.out L10.out) H2.out Is.out).mono ?_
  rintro e w11 ⟨A11, c11, rfl, hd, hb⟩
  have L11 := Lib.hid ((L10.out.step hb).add hd)
  have Rx_11 := Lib.hid (cells_of Rx_10.out hb)
  have Ry_11 := Lib.hid (cells_of Ry_10.out hb)
  have Rz_11 := Lib.hid (cells_of Rz_10.out hb)
  have Rtx_11 := Lib.hid (cells_of Rtx_10.out hb)
  have Rty_11 := Lib.hid (cells_of Rty_10.out hb)
  have Rtz_11 := Lib.hid (cells_of Rtz_10.out hb)
  have Rbd_11 := Lib.hid (cells_of Rbd_10.out hb)
  clear hb hd
  have ftx0 := row_c (i := 0) Rtx_11.out rfl
  have ztx0 := frozen_of_row _ _ 0 _ _ Rtx_11.out
  have ftx1 := row_c (i := 1) Rtx_11.out rfl
  have ztx1 := frozen_of_row _ _ 1 _ _ Rtx_11.out
  have ftx2 := row_c (i := 2) Rtx_11.out rfl
  have ztx2 := frozen_of_row _ _ 2 _ _ Rtx_11.out
  have xtx := heap_lt Rtx_11.out
  have fty0 := row_c (i := 0) Rty_11.out rfl
  have zty0 := frozen_of_row _ _ 0 _ _ Rty_11.out
  have fty1 := row_c (i := 1) Rty_11.out rfl
  have zty1 := frozen_of_row _ _ 1 _ _ Rty_11.out
  have fty2 := row_c (i := 2) Rty_11.out rfl
  have zty2 := frozen_of_row _ _ 2 _ _ Rty_11.out
  have xty := heap_lt Rty_11.out
  go_wp2_with fail
  obtain ⟨w12, hW⟩ : ∃ W : World, W = (w11.alloc (.cells #[.bool (decide (Ms < 0)), .slice A11 (digs Ms.natAbs).length c11, .int .i64 Es] 26)) := ⟨_, rfl⟩
  rw [← hW]
  have hb : Below w11.heap.size w11 w12 := by rw [hW]; exact ((Below.refl _ _).alloc (by simp <;> omega) _)
  have L12 := Lib.hid (L11.out.step hb)
  have Rx_12 := Lib.hid (cells_of Rx_11.out hb)
  have Ry_12 := Lib.hid (cells_of Ry_11.out hb)
  have Rz_12 := Lib.hid (cells_of Rz_11.out hb)
  have Rtx_12 := Lib.hid (cells_of Rtx_11.out hb)
  have Rty_12 := Lib.hid (cells_of Rty_11.out hb)
  have Rtz_12 := Lib.hid (cells_of Rtz_11.out hb)
  have Rbd_12 := Lib.hid (cells_of Rbd_11.out hb)
  have Rbs_12 := Lib.hid (show w12.heap[w11.heap.size]? = some (.cells #[.bool (decide (Ms < 0)), .slice A11 (digs Ms.natAbs).length c11, .int .i64 Es] 26 (0, 0)) by rw [hW]; have := heap_alloc_new w11 (.cells #[.bool (decide (Ms < 0)), .slice A11 (digs Ms.natAbs).length c11, .int .i64 Es] 26); simpa using this)
  have Gbs : w.heap.size ≤ w11.heap.size := by have := L11.out.1.size; omega
  have Nxbs : w.heap.size < w11.heap.size := by have := heap_lt Rx_11.out; omega
  have Nybs : w.heap.size + 1 < w11.heap.size := by have := heap_lt Ry_11.out; omega
  have Nzbs : w.heap.size + 1 + 1 < w11.heap.size := by have := heap_lt Rz_11.out; omega
  have Ntxbs : w3.heap.size < w11.heap.size := by have := heap_lt Rtx_11.out; omega
  have Ntybs : w5.heap.size < w11.heap.size := by have := heap_lt Rty_11.out; omega
  have Ntzbs : w7.heap.size < w11.heap.size := by have := heap_lt Rtz_11.out; omega
  have Nbdbs : w9.heap.size < w11.heap.size := by have := heap_lt Rbd_11.out; omega
  clear hW hb
  clear ftx0 ztx0 ftx1 ztx1 ftx2 ztx2 xtx fty0 zty0 fty1 zty1 fty2 zty2 xty
  refine (dmul_yes (m := mx) (x := yx) (n := my) (y := yy) (M := Mp) (E := Ep) (L12.out.get (A := A3) (c := c3) (xs := digs mx.natAbs) (by simp)) (L12.out.get (A := A5) (c := c5) (xs := digs my.natAbs) (by simp)) Dx.out Dy.out Rx.out Ry.out (t32_live HT.out L12.out) H3.out Ip.out).mono ?_
  rintro e w13 ⟨A13, c13, rfl, hd, hb⟩
  have L13 := Lib.hid ((L12.out.step hb).add hd)
  have Rx_13 := Lib.hid (cells_of Rx_12.out hb)
  have Ry_13 := Lib.hid (cells_of Ry_12.out hb)
  have Rz_13 := Lib.hid (cells_of Rz_12.out hb)
  have Rtx_13 := Lib.hid (cells_of Rtx_12.out hb)
  have Rty_13 := Lib.hid (cells_of Rty_12.out hb)
  have Rtz_13 := Lib.hid (cells_of Rtz_12.out hb)
  have Rbd_13 := Lib.hid (cells_of Rbd_12.out hb)
  have Rbs_13 := Lib.hid (cells_of Rbs_12.out hb)
  clear hb hd
  have ftx0 := row_c (i := 0) Rtx_13.out rfl
  have ztx0 := frozen_of_row _ _ 0 _ _ Rtx_13.out
  have ftx1 := row_c (i := 1) Rtx_13.out rfl
  have ztx1 := frozen_of_row _ _ 1 _ _ Rtx_13.out
  have ftx2 := row_c (i := 2) Rtx_13.out rfl
  have ztx2 := frozen_of_row _ _ 2 _ _ Rtx_13.out
  have xtx := heap_lt Rtx_13.out
  have ftz0 := row_c (i := 0) Rtz_13.out rfl
  have ztz0 := frozen_of_row _ _ 0 _ _ Rtz_13.out
  have ftz1 := row_c (i := 1) Rtz_13.out rfl
  have ztz1 := frozen_of_row _ _ 1 _ _ Rtz_13.out
  have ftz2 := row_c (i := 2) Rtz_13.out rfl
  have ztz2 := frozen_of_row _ _ 2 _ _ Rtz_13.out
  have xtz := heap_lt Rtz_13.out
  go_wp2_with fail
  obtain ⟨w14, hW⟩ : ∃ W : World, W = (w13.alloc (.cells #[.bool (decide (Mp < 0)), .slice A13 (digs Mp.natAbs).length c13, .int .i64 Ep] 26)) := ⟨_, rfl⟩
  rw [← hW]
  have hb : Below w13.heap.size w13 w14 := by rw [hW]; exact ((Below.refl _ _).alloc (by simp <;> omega) _)
  have L14 := Lib.hid (L13.out.step hb)
  have Rx_14 := Lib.hid (cells_of Rx_13.out hb)
  have Ry_14 := Lib.hid (cells_of Ry_13.out hb)
  have Rz_14 := Lib.hid (cells_of Rz_13.out hb)
  have Rtx_14 := Lib.hid (cells_of Rtx_13.out hb)
  have Rty_14 := Lib.hid (cells_of Rty_13.out hb)
  have Rtz_14 := Lib.hid (cells_of Rtz_13.out hb)
  have Rbd_14 := Lib.hid (cells_of Rbd_13.out hb)
  have Rbs_14 := Lib.hid (cells_of Rbs_13.out hb)
  have Rbp_14 := Lib.hid (show w14.heap[w13.heap.size]? = some (.cells #[.bool (decide (Mp < 0)), .slice A13 (digs Mp.natAbs).length c13, .int .i64 Ep] 26 (0, 0)) by rw [hW]; have := heap_alloc_new w13 (.cells #[.bool (decide (Mp < 0)), .slice A13 (digs Mp.natAbs).length c13, .int .i64 Ep] 26); simpa using this)
  have Gbp : w.heap.size ≤ w13.heap.size := by have := L13.out.1.size; omega
  have Nxbp : w.heap.size < w13.heap.size := by have := heap_lt Rx_13.out; omega
  have Nybp : w.heap.size + 1 < w13.heap.size := by have := heap_lt Ry_13.out; omega
  have Nzbp : w.heap.size + 1 + 1 < w13.heap.size := by have := heap_lt Rz_13.out; omega
  have Ntxbp : w3.heap.size < w13.heap.size := by have := heap_lt Rtx_13.out; omega
  have Ntybp : w5.heap.size < w13.heap.size := by have := heap_lt Rty_13.out; omega
  have Ntzbp : w7.heap.size < w13.heap.size := by have := heap_lt Rtz_13.out; omega
  have Nbdbp : w9.heap.size < w13.heap.size := by have := heap_lt Rbd_13.out; omega
  have Nbsbp : w11.heap.size < w13.heap.size := by have := heap_lt Rbs_13.out; omega
  clear hW hb
  clear ftx0 ztx0 ftx1 ztx1 ftx2 ztx2 xtx ftz0 ztz0 ftz1 ztz1 ftz2 ztz2 xtz
  refine (dmul_yes (m := mx) (x := yx) (n := mz) (y := yz) (M := Mq) (E := Eq) (L14.out.get (A := A3) (c := c3) (xs := digs mx.natAbs) (by simp)) (L14.out.get (A := A7) (c := c7) (xs := digs mz.natAbs) (by simp)) Dx.out Dz.out Rx.out Rz.out (t32_live HT.out L14.out) H4.out Iq.out).mono ?_
  rintro e w15 ⟨A15, c15, rfl, hd, hb⟩
  have L15 := Lib.hid ((L14.out.step hb).add hd)
  have Rx_15 := Lib.hid (cells_of Rx_14.out hb)
  have Ry_15 := Lib.hid (cells_of Ry_14.out hb)
  have Rz_15 := Lib.hid (cells_of Rz_14.out hb)
  have Rtx_15 := Lib.hid (cells_of Rtx_14.out hb)
  have Rty_15 := Lib.hid (cells_of Rty_14.out hb)
  have Rtz_15 := Lib.hid (cells_of Rtz_14.out hb)
  have Rbd_15 := Lib.hid (cells_of Rbd_14.out hb)
  have Rbs_15 := Lib.hid (cells_of Rbs_14.out hb)
  have Rbp_15 := Lib.hid (cells_of Rbp_14.out hb)
  clear hb hd
  have fbp0 := row_c (i := 0) Rbp_15.out rfl
  have zbp0 := frozen_of_row _ _ 0 _ _ Rbp_15.out
  have fbp1 := row_c (i := 1) Rbp_15.out rfl
  have zbp1 := frozen_of_row _ _ 1 _ _ Rbp_15.out
  have fbp2 := row_c (i := 2) Rbp_15.out rfl
  have zbp2 := frozen_of_row _ _ 2 _ _ Rbp_15.out
  have xbp := heap_lt Rbp_15.out
  go_wp2_with fail
  obtain ⟨w16, hW⟩ : ∃ W : World, W = (w15.alloc (.cells #[.bool (decide (Mq < 0)), .slice A15 (digs Mq.natAbs).length c15, .int .i64 Eq] 26)) := ⟨_, rfl⟩
  rw [← hW]
  have hb : Below w15.heap.size w15 w16 := by rw [hW]; exact ((Below.refl _ _).alloc (by simp <;> omega) _)
  have L16 := Lib.hid (L15.out.step hb)
  have Rx_16 := Lib.hid (cells_of Rx_15.out hb)
  have Ry_16 := Lib.hid (cells_of Ry_15.out hb)
  have Rz_16 := Lib.hid (cells_of Rz_15.out hb)
  have Rtx_16 := Lib.hid (cells_of Rtx_15.out hb)
  have Rty_16 := Lib.hid (cells_of Rty_15.out hb)
  have Rtz_16 := Lib.hid (cells_of Rtz_15.out hb)
  have Rbd_16 := Lib.hid (cells_of Rbd_15.out hb)
  have Rbs_16 := Lib.hid (cells_of Rbs_15.out hb)
  have Rbp_16 := Lib.hid (cells_of Rbp_15.out hb)
  have Rbq_16 := Lib.hid (show w16.heap[w15.heap.size]? = some (.cells #[.bool (decide (Mq < 0)), .slice A15 (digs Mq.natAbs).length c15, .int .i64 Eq] 26 (0, 0)) by rw [hW]; have := heap_alloc_new w15 (.cells #[.bool (decide (Mq < 0)), .slice A15 (digs Mq.natAbs).length c15, .int .i64 Eq] 26); simpa using this)
  have Gbq : w.heap.size ≤ w15.heap.size := by have := L15.out.1.size; omega
  have Nxbq : w.heap.size < w15.heap.size := by have := heap_lt Rx_15.out; omega
  have Nybq : w.heap.size + 1 < w15.heap.size := by have := heap_lt Ry_15.out; omega
  have Nzbq : w.heap.size + 1 + 1 < w15.heap.size := by have := heap_lt Rz_15.out; omega
  have Ntxbq : w3.heap.size < w15.heap.size := by have := heap_lt Rtx_15.out; omega
  have Ntybq : w5.heap.size < w15.heap.size := by have := heap_lt Rty_15.out; omega
  have Ntzbq : w7.heap.size < w15.heap.size := by have := heap_lt Rtz_15.out; omega
  have Nbdbq : w9.heap.size < w15.heap.size := by have := heap_lt Rbd_15.out; omega
  have Nbsbq : w11.heap.size < w15.heap.size := by have := heap_lt Rbs_15.out; omega
  have Nbpbq : w13.heap.size < w15.heap.size := by have := heap_lt Rbp_15.out; omega
  clear hW hb
  clear fbp0 zbp0 fbp1 zbp1 fbp2 zbp2 xbp
  refine (dadd_yes (m := Mq) (x := Eq) (n := Mp) (y := Ep) (M := Ms) (E := Es) (L16.out.get (A := A15) (c := c15) (xs := digs Mq.natAbs) (by simp)) (L16.out.get (A := A13) (c := c13) (xs := digs Mp.natAbs) (by simp)) Dq.out Dp.out Rq.out Rp.out (t32_live HT.out L16.out) H5.out It.out).mono ?_
  rintro e w17 ⟨A17, c17, rfl, hd, hb⟩
  have L17 := Lib.hid ((L16.out.step hb).add hd)
  have Rx_17 := Lib.hid (cells_of Rx_16.out hb)
  have Ry_17 := Lib.hid (cells_of Ry_16.out hb)
  have Rz_17 := Lib.hid (cells_of Rz_16.out hb)
  have Rtx_17 := Lib.hid (cells_of Rtx_16.out hb)
  have Rty_17 := Lib.hid (cells_of Rty_16.out hb)
  have Rtz_17 := Lib.hid (cells_of Rtz_16.out hb)
  have Rbd_17 := Lib.hid (cells_of Rbd_16.out hb)
  have Rbs_17 := Lib.hid (cells_of Rbs_16.out hb)
  have Rbp_17 := Lib.hid (cells_of Rbp_16.out hb)
  have Rbq_17 := Lib.hid (cells_of Rbq_16.out hb)
  clear hb hd
  have fbs0 := row_c (i := 0) Rbs_17.out rfl
  have zbs0 := frozen_of_row _ _ 0 _ _ Rbs_17.out
  have fbs1 := row_c (i := 1) Rbs_17.out rfl
  have zbs1 := frozen_of_row _ _ 1 _ _ Rbs_17.out
  have fbs2 := row_c (i := 2) Rbs_17.out rfl
  have zbs2 := frozen_of_row _ _ 2 _ _ Rbs_17.out
  have xbs := heap_lt Rbs_17.out
  go_wp2_with fail
  obtain ⟨w18, hW⟩ : ∃ W : World, W = (w17.alloc (.cells #[.bool (decide (Ms < 0)), .slice A17 (digs Ms.natAbs).length c17, .int .i64 Es] 26)) := ⟨_, rfl⟩
  rw [← hW]
  have hb : Below w17.heap.size w17 w18 := by rw [hW]; exact ((Below.refl _ _).alloc (by simp <;> omega) _)
  have L18 := Lib.hid (L17.out.step hb)
  have Rx_18 := Lib.hid (cells_of Rx_17.out hb)
  have Ry_18 := Lib.hid (cells_of Ry_17.out hb)
  have Rz_18 := Lib.hid (cells_of Rz_17.out hb)
  have Rtx_18 := Lib.hid (cells_of Rtx_17.out hb)
  have Rty_18 := Lib.hid (cells_of Rty_17.out hb)
  have Rtz_18 := Lib.hid (cells_of Rtz_17.out hb)
  have Rbd_18 := Lib.hid (cells_of Rbd_17.out hb)
  have Rbs_18 := Lib.hid (cells_of Rbs_17.out hb)
  have Rbp_18 := Lib.hid (cells_of Rbp_17.out hb)
  have Rbq_18 := Lib.hid (cells_of Rbq_17.out hb)
  have Rbt_18 := Lib.hid (show w18.heap[w17.heap.size]? = some (.cells #[.bool (decide (Ms < 0)), .slice A17 (digs Ms.natAbs).length c17, .int .i64 Es] 26 (0, 0)) by rw [hW]; have := heap_alloc_new w17 (.cells #[.bool (decide (Ms < 0)), .slice A17 (digs Ms.natAbs).length c17, .int .i64 Es] 26); simpa using this)
  have Gbt : w.heap.size ≤ w17.heap.size := by have := L17.out.1.size; omega
  have Nxbt : w.heap.size < w17.heap.size := by have := heap_lt Rx_17.out; omega
  have Nybt : w.heap.size + 1 < w17.heap.size := by have := heap_lt Ry_17.out; omega
  have Nzbt : w.heap.size + 1 + 1 < w17.heap.size := by have := heap_lt Rz_17.out; omega
  have Ntxbt : w3.heap.size < w17.heap.size := by have := heap_lt Rtx_17.out; omega
  have Ntybt : w5.heap.size < w17.heap.size := by have := heap_lt Rty_17.out; omega
  have Ntzbt : w7.heap.size < w17.heap.size := by have := heap_lt Rtz_17.out; omega
  have Nbdbt : w9.heap.size < w17.heap.size := by have := heap_lt Rbd_17.out; omega
  have Nbsbt : w11.heap.size < w17.heap.size := by have := heap_lt Rbs_17.out; omega
  have Nbpbt : w13.heap.size < w17.heap.size := by have := heap_lt Rbp_17.out; omega
  have Nbqbt : w15.heap.size < w17.heap.size := by have := heap_lt Rbq_17.out; omega
  clear hW hb
  clear fbs0 zbs0 fbs1 zbs1 fbs2 zbs2 xbs
  refine (scale_yes_ _ _ Ms Es (r - 300) Mt Et _ (L18.out.get (A := A11) (c := c11) (xs := digs Ms.natAbs) (by simp)) Ds.out Rs.out (t32_live HT.out L18.out) (by omega) (by omega) H6.out Iu.out).mono ?_
  rintro e w19 ⟨A19, c19, rfl, hd, hb⟩
  have L19 := Lib.hid ((L18.out.step hb).add hd)
  have Rx_19 := Lib.hid (cells_of Rx_18.out hb)
  have Ry_19 := Lib.hid (cells_of Ry_18.out hb)
  have Rz_19 := Lib.hid (cells_of Rz_18.out hb)
  have Rtx_19 := Lib.hid (cells_of Rtx_18.out hb)
  have Rty_19 := Lib.hid (cells_of Rty_18.out hb)
  have Rtz_19 := Lib.hid (cells_of Rtz_18.out hb)
  have Rbd_19 := Lib.hid (cells_of Rbd_18.out hb)
  have Rbs_19 := Lib.hid (cells_of Rbs_18.out hb)
  have Rbp_19 := Lib.hid (cells_of Rbp_18.out hb)
  have Rbq_19 := Lib.hid (cells_of Rbq_18.out hb)
  have Rbt_19 := Lib.hid (cells_of Rbt_18.out hb)
  clear hb hd
  have ftx0 := row_c (i := 0) Rtx_19.out rfl
  have ztx0 := frozen_of_row _ _ 0 _ _ Rtx_19.out
  have ftx1 := row_c (i := 1) Rtx_19.out rfl
  have ztx1 := frozen_of_row _ _ 1 _ _ Rtx_19.out
  have ftx2 := row_c (i := 2) Rtx_19.out rfl
  have ztx2 := frozen_of_row _ _ 2 _ _ Rtx_19.out
  have xtx := heap_lt Rtx_19.out
  go_wp2_with fail
  obtain ⟨w20, hW⟩ : ∃ W : World, W = (w19.alloc (.cells #[.bool (decide (Mt < 0)), .slice A19 (digs Mt.natAbs).length c19, .int .i64 Et] 26)) := ⟨_, rfl⟩
  rw [← hW]
  have hb : Below w19.heap.size w19 w20 := by rw [hW]; exact ((Below.refl _ _).alloc (by simp <;> omega) _)
  have L20 := Lib.hid (L19.out.step hb)
  have Rx_20 := Lib.hid (cells_of Rx_19.out hb)
  have Ry_20 := Lib.hid (cells_of Ry_19.out hb)
  have Rz_20 := Lib.hid (cells_of Rz_19.out hb)
  have Rtx_20 := Lib.hid (cells_of Rtx_19.out hb)
  have Rty_20 := Lib.hid (cells_of Rty_19.out hb)
  have Rtz_20 := Lib.hid (cells_of Rtz_19.out hb)
  have Rbd_20 := Lib.hid (cells_of Rbd_19.out hb)
  have Rbs_20 := Lib.hid (cells_of Rbs_19.out hb)
  have Rbp_20 := Lib.hid (cells_of Rbp_19.out hb)
  have Rbq_20 := Lib.hid (cells_of Rbq_19.out hb)
  have Rbt_20 := Lib.hid (cells_of Rbt_19.out hb)
  have Rbu_20 := Lib.hid (show w20.heap[w19.heap.size]? = some (.cells #[.bool (decide (Mt < 0)), .slice A19 (digs Mt.natAbs).length c19, .int .i64 Et] 26 (0, 0)) by rw [hW]; have := heap_alloc_new w19 (.cells #[.bool (decide (Mt < 0)), .slice A19 (digs Mt.natAbs).length c19, .int .i64 Et] 26); simpa using this)
  have Gbu : w.heap.size ≤ w19.heap.size := by have := L19.out.1.size; omega
  have Nxbu : w.heap.size < w19.heap.size := by have := heap_lt Rx_19.out; omega
  have Nybu : w.heap.size + 1 < w19.heap.size := by have := heap_lt Ry_19.out; omega
  have Nzbu : w.heap.size + 1 + 1 < w19.heap.size := by have := heap_lt Rz_19.out; omega
  have Ntxbu : w3.heap.size < w19.heap.size := by have := heap_lt Rtx_19.out; omega
  have Ntybu : w5.heap.size < w19.heap.size := by have := heap_lt Rty_19.out; omega
  have Ntzbu : w7.heap.size < w19.heap.size := by have := heap_lt Rtz_19.out; omega
  have Nbdbu : w9.heap.size < w19.heap.size := by have := heap_lt Rbd_19.out; omega
  have Nbsbu : w11.heap.size < w19.heap.size := by have := heap_lt Rbs_19.out; omega
  have Nbpbu : w13.heap.size < w19.heap.size := by have := heap_lt Rbp_19.out; omega
  have Nbqbu : w15.heap.size < w19.heap.size := by have := heap_lt Rbq_19.out; omega
  have Nbtbu : w17.heap.size < w19.heap.size := by have := heap_lt Rbt_19.out; omega
  clear hW hb
  clear ftx0 ztx0 ftx1 ztx1 ftx2 ztx2 xtx
  refine (scale_yes_ _ _ mx yx (r - 300) Mu Eu _ (L20.out.get (A := A3) (c := c3) (xs := digs mx.natAbs) (by simp)) Dx.out Rx.out (t32_live HT.out L20.out) (by omega) (by omega) H7.out Iv.out).mono ?_
  rintro e w21 ⟨A21, c21, rfl, hd, hb⟩
  have L21 := Lib.hid ((L20.out.step hb).add hd)
  have Rx_21 := Lib.hid (cells_of Rx_20.out hb)
  have Ry_21 := Lib.hid (cells_of Ry_20.out hb)
  have Rz_21 := Lib.hid (cells_of Rz_20.out hb)
  have Rtx_21 := Lib.hid (cells_of Rtx_20.out hb)
  have Rty_21 := Lib.hid (cells_of Rty_20.out hb)
  have Rtz_21 := Lib.hid (cells_of Rtz_20.out hb)
  have Rbd_21 := Lib.hid (cells_of Rbd_20.out hb)
  have Rbs_21 := Lib.hid (cells_of Rbs_20.out hb)
  have Rbp_21 := Lib.hid (cells_of Rbp_20.out hb)
  have Rbq_21 := Lib.hid (cells_of Rbq_20.out hb)
  have Rbt_21 := Lib.hid (cells_of Rbt_20.out hb)
  have Rbu_21 := Lib.hid (cells_of Rbu_20.out hb)
  clear hb hd
  have fbd0 := row_c (i := 0) Rbd_21.out rfl
  have zbd0 := frozen_of_row _ _ 0 _ _ Rbd_21.out
  have fbd1 := row_c (i := 1) Rbd_21.out rfl
  have zbd1 := frozen_of_row _ _ 1 _ _ Rbd_21.out
  have fbd2 := row_c (i := 2) Rbd_21.out rfl
  have zbd2 := frozen_of_row _ _ 2 _ _ Rbd_21.out
  have xbd := heap_lt Rbd_21.out
  go_wp2_with fail
  obtain ⟨w22, hW⟩ : ∃ W : World, W = (w21.alloc (.cells #[.bool (decide (Mu < 0)), .slice A21 (digs Mu.natAbs).length c21, .int .i64 Eu] 26)) := ⟨_, rfl⟩
  rw [← hW]
  have hb : Below w21.heap.size w21 w22 := by rw [hW]; exact ((Below.refl _ _).alloc (by simp <;> omega) _)
  have L22 := Lib.hid (L21.out.step hb)
  have Rx_22 := Lib.hid (cells_of Rx_21.out hb)
  have Ry_22 := Lib.hid (cells_of Ry_21.out hb)
  have Rz_22 := Lib.hid (cells_of Rz_21.out hb)
  have Rtx_22 := Lib.hid (cells_of Rtx_21.out hb)
  have Rty_22 := Lib.hid (cells_of Rty_21.out hb)
  have Rtz_22 := Lib.hid (cells_of Rtz_21.out hb)
  have Rbd_22 := Lib.hid (cells_of Rbd_21.out hb)
  have Rbs_22 := Lib.hid (cells_of Rbs_21.out hb)
  have Rbp_22 := Lib.hid (cells_of Rbp_21.out hb)
  have Rbq_22 := Lib.hid (cells_of Rbq_21.out hb)
  have Rbt_22 := Lib.hid (cells_of Rbt_21.out hb)
  have Rbu_22 := Lib.hid (cells_of Rbu_21.out hb)
  have Rbv_22 := Lib.hid (show w22.heap[w21.heap.size]? = some (.cells #[.bool (decide (Mu < 0)), .slice A21 (digs Mu.natAbs).length c21, .int .i64 Eu] 26 (0, 0)) by rw [hW]; have := heap_alloc_new w21 (.cells #[.bool (decide (Mu < 0)), .slice A21 (digs Mu.natAbs).length c21, .int .i64 Eu] 26); simpa using this)
  have Gbv : w.heap.size ≤ w21.heap.size := by have := L21.out.1.size; omega
  have Nxbv : w.heap.size < w21.heap.size := by have := heap_lt Rx_21.out; omega
  have Nybv : w.heap.size + 1 < w21.heap.size := by have := heap_lt Ry_21.out; omega
  have Nzbv : w.heap.size + 1 + 1 < w21.heap.size := by have := heap_lt Rz_21.out; omega
  have Ntxbv : w3.heap.size < w21.heap.size := by have := heap_lt Rtx_21.out; omega
  have Ntybv : w5.heap.size < w21.heap.size := by have := heap_lt Rty_21.out; omega
  have Ntzbv : w7.heap.size < w21.heap.size := by have := heap_lt Rtz_21.out; omega
  have Nbdbv : w9.heap.size < w21.heap.size := by have := heap_lt Rbd_21.out; omega
  have Nbsbv : w11.heap.size < w21.heap.size := by have := heap_lt Rbs_21.out; omega
  have Nbpbv : w13.heap.size < w21.heap.size := by have := heap_lt Rbp_21.out; omega
  have Nbqbv : w15.heap.size < w21.heap.size := by have := heap_lt Rbq_21.out; omega
  have Nbtbv : w17.heap.size < w21.heap.size := by have := heap_lt Rbt_21.out; omega
  have Nbubv : w19.heap.size < w21.heap.size := by have := heap_lt Rbu_21.out; omega
  clear hW hb
  clear fbd0 zbd0 fbd1 zbd1 fbd2 zbd2 xbd
  refine (dmul_yes (m := Md) (x := Ed) (n := Mu) (y := Eu) (M := Mt) (E := Et) (L22.out.get (A := A9) (c := c9) (xs := digs Md.natAbs) (by simp)) (L22.out.get (A := A21) (c := c21) (xs := digs Mu.natAbs) (by simp)) Dd.out Dv.out Rd.out Rv.out (t32_live HT.out L22.out) H8.out Ij.out).mono ?_
  rintro e w23 ⟨A23, c23, rfl, hd, hb⟩
  have L23 := Lib.hid ((L22.out.step hb).add hd)
  have Rx_23 := Lib.hid (cells_of Rx_22.out hb)
  have Ry_23 := Lib.hid (cells_of Ry_22.out hb)
  have Rz_23 := Lib.hid (cells_of Rz_22.out hb)
  have Rtx_23 := Lib.hid (cells_of Rtx_22.out hb)
  have Rty_23 := Lib.hid (cells_of Rty_22.out hb)
  have Rtz_23 := Lib.hid (cells_of Rtz_22.out hb)
  have Rbd_23 := Lib.hid (cells_of Rbd_22.out hb)
  have Rbs_23 := Lib.hid (cells_of Rbs_22.out hb)
  have Rbp_23 := Lib.hid (cells_of Rbp_22.out hb)
  have Rbq_23 := Lib.hid (cells_of Rbq_22.out hb)
  have Rbt_23 := Lib.hid (cells_of Rbt_22.out hb)
  have Rbu_23 := Lib.hid (cells_of Rbu_22.out hb)
  have Rbv_23 := Lib.hid (cells_of Rbv_22.out hb)
  clear hb hd
  have fbd0 := row_c (i := 0) Rbd_23.out rfl
  have zbd0 := frozen_of_row _ _ 0 _ _ Rbd_23.out
  have fbd1 := row_c (i := 1) Rbd_23.out rfl
  have zbd1 := frozen_of_row _ _ 1 _ _ Rbd_23.out
  have fbd2 := row_c (i := 2) Rbd_23.out rfl
  have zbd2 := frozen_of_row _ _ 2 _ _ Rbd_23.out
  have xbd := heap_lt Rbd_23.out
  have ftz0 := row_c (i := 0) Rtz_23.out rfl
  have ztz0 := frozen_of_row _ _ 0 _ _ Rtz_23.out
  have ftz1 := row_c (i := 1) Rtz_23.out rfl
  have ztz1 := frozen_of_row _ _ 1 _ _ Rtz_23.out
  have ftz2 := row_c (i := 2) Rtz_23.out rfl
  have ztz2 := frozen_of_row _ _ 2 _ _ Rtz_23.out
  have xtz := heap_lt Rtz_23.out
  go_wp2_with fail
  obtain ⟨w24, hW⟩ : ∃ W : World, W = (w23.alloc (.cells #[.bool (decide (Mt < 0)), .slice A23 (digs Mt.natAbs).length c23, .int .i64 Et] 26)) := ⟨_, rfl⟩
  rw [← hW]
  have hb : Below w23.heap.size w23 w24 := by rw [hW]; exact ((Below.refl _ _).alloc (by simp <;> omega) _)
  have L24 := Lib.hid (L23.out.step hb)
  have Rx_24 := Lib.hid (cells_of Rx_23.out hb)
  have Ry_24 := Lib.hid (cells_of Ry_23.out hb)
  have Rz_24 := Lib.hid (cells_of Rz_23.out hb)
  have Rtx_24 := Lib.hid (cells_of Rtx_23.out hb)
  have Rty_24 := Lib.hid (cells_of Rty_23.out hb)
  have Rtz_24 := Lib.hid (cells_of Rtz_23.out hb)
  have Rbd_24 := Lib.hid (cells_of Rbd_23.out hb)
  have Rbs_24 := Lib.hid (cells_of Rbs_23.out hb)
  have Rbp_24 := Lib.hid (cells_of Rbp_23.out hb)
  have Rbq_24 := Lib.hid (cells_of Rbq_23.out hb)
  have Rbt_24 := Lib.hid (cells_of Rbt_23.out hb)
  have Rbu_24 := Lib.hid (cells_of Rbu_23.out hb)
  have Rbv_24 := Lib.hid (cells_of Rbv_23.out hb)
  have Rbj_24 := Lib.hid (show w24.heap[w23.heap.size]? = some (.cells #[.bool (decide (Mt < 0)), .slice A23 (digs Mt.natAbs).length c23, .int .i64 Et] 26 (0, 0)) by rw [hW]; have := heap_alloc_new w23 (.cells #[.bool (decide (Mt < 0)), .slice A23 (digs Mt.natAbs).length c23, .int .i64 Et] 26); simpa using this)
  have Gbj : w.heap.size ≤ w23.heap.size := by have := L23.out.1.size; omega
  have Nxbj : w.heap.size < w23.heap.size := by have := heap_lt Rx_23.out; omega
  have Nybj : w.heap.size + 1 < w23.heap.size := by have := heap_lt Ry_23.out; omega
  have Nzbj : w.heap.size + 1 + 1 < w23.heap.size := by have := heap_lt Rz_23.out; omega
  have Ntxbj : w3.heap.size < w23.heap.size := by have := heap_lt Rtx_23.out; omega
  have Ntybj : w5.heap.size < w23.heap.size := by have := heap_lt Rty_23.out; omega
  have Ntzbj : w7.heap.size < w23.heap.size := by have := heap_lt Rtz_23.out; omega
  have Nbdbj : w9.heap.size < w23.heap.size := by have := heap_lt Rbd_23.out; omega
  have Nbsbj : w11.heap.size < w23.heap.size := by have := heap_lt Rbs_23.out; omega
  have Nbpbj : w13.heap.size < w23.heap.size := by have := heap_lt Rbp_23.out; omega
  have Nbqbj : w15.heap.size < w23.heap.size := by have := heap_lt Rbq_23.out; omega
  have Nbtbj : w17.heap.size < w23.heap.size := by have := heap_lt Rbt_23.out; omega
  have Nbubj : w19.heap.size < w23.heap.size := by have := heap_lt Rbu_23.out; omega
  have Nbvbj : w21.heap.size < w23.heap.size := by have := heap_lt Rbv_23.out; omega
  clear hW hb
  clear fbd0 zbd0 fbd1 zbd1 fbd2 zbd2 xbd ftz0 ztz0 ftz1 ztz1 ftz2 ztz2 xtz
  refine (dsub_yes (m := Md) (x := Ed) (n := mz) (y := yz) (M := my) (E := yy) (L24.out.get (A := A9) (c := c9) (xs := digs Md.natAbs) (by simp)) (L24.out.get (A := A7) (c := c7) (xs := digs mz.natAbs) (by simp)) Dd.out Dz.out Rd.out Rz.out (t32_live HT.out L24.out) H9.out Ig.out).mono ?_
  rintro e w25 ⟨A25, c25, rfl, hd, hb⟩
  have L25 := Lib.hid ((L24.out.step hb).add hd)
  have Rx_25 := Lib.hid (cells_of Rx_24.out hb)
  have Ry_25 := Lib.hid (cells_of Ry_24.out hb)
  have Rz_25 := Lib.hid (cells_of Rz_24.out hb)
  have Rtx_25 := Lib.hid (cells_of Rtx_24.out hb)
  have Rty_25 := Lib.hid (cells_of Rty_24.out hb)
  have Rtz_25 := Lib.hid (cells_of Rtz_24.out hb)
  have Rbd_25 := Lib.hid (cells_of Rbd_24.out hb)
  have Rbs_25 := Lib.hid (cells_of Rbs_24.out hb)
  have Rbp_25 := Lib.hid (cells_of Rbp_24.out hb)
  have Rbq_25 := Lib.hid (cells_of Rbq_24.out hb)
  have Rbt_25 := Lib.hid (cells_of Rbt_24.out hb)
  have Rbu_25 := Lib.hid (cells_of Rbu_24.out hb)
  have Rbv_25 := Lib.hid (cells_of Rbv_24.out hb)
  have Rbj_25 := Lib.hid (cells_of Rbj_24.out hb)
  clear hb hd
  have fbs0 := row_c (i := 0) Rbs_25.out rfl
  have zbs0 := frozen_of_row _ _ 0 _ _ Rbs_25.out
  have fbs1 := row_c (i := 1) Rbs_25.out rfl
  have zbs1 := frozen_of_row _ _ 1 _ _ Rbs_25.out
  have fbs2 := row_c (i := 2) Rbs_25.out rfl
  have zbs2 := frozen_of_row _ _ 2 _ _ Rbs_25.out
  have xbs := heap_lt Rbs_25.out
  have fbt0 := row_c (i := 0) Rbt_25.out rfl
  have zbt0 := frozen_of_row _ _ 0 _ _ Rbt_25.out
  have fbt1 := row_c (i := 1) Rbt_25.out rfl
  have zbt1 := frozen_of_row _ _ 1 _ _ Rbt_25.out
  have fbt2 := row_c (i := 2) Rbt_25.out rfl
  have zbt2 := frozen_of_row _ _ 2 _ _ Rbt_25.out
  have xbt := heap_lt Rbt_25.out
  go_wp2_with fail
  obtain ⟨w26, hW⟩ : ∃ W : World, W = (w25.alloc (.cells #[.bool (decide (my < 0)), .slice A25 (digs my.natAbs).length c25, .int .i64 yy] 26)) := ⟨_, rfl⟩
  rw [← hW]
  have hb : Below w25.heap.size w25 w26 := by rw [hW]; exact ((Below.refl _ _).alloc (by simp <;> omega) _)
  have L26 := Lib.hid (L25.out.step hb)
  have Rx_26 := Lib.hid (cells_of Rx_25.out hb)
  have Ry_26 := Lib.hid (cells_of Ry_25.out hb)
  have Rz_26 := Lib.hid (cells_of Rz_25.out hb)
  have Rtx_26 := Lib.hid (cells_of Rtx_25.out hb)
  have Rty_26 := Lib.hid (cells_of Rty_25.out hb)
  have Rtz_26 := Lib.hid (cells_of Rtz_25.out hb)
  have Rbd_26 := Lib.hid (cells_of Rbd_25.out hb)
  have Rbs_26 := Lib.hid (cells_of Rbs_25.out hb)
  have Rbp_26 := Lib.hid (cells_of Rbp_25.out hb)
  have Rbq_26 := Lib.hid (cells_of Rbq_25.out hb)
  have Rbt_26 := Lib.hid (cells_of Rbt_25.out hb)
  have Rbu_26 := Lib.hid (cells_of Rbu_25.out hb)
  have Rbv_26 := Lib.hid (cells_of Rbv_25.out hb)
  have Rbj_26 := Lib.hid (cells_of Rbj_25.out hb)
  have Rbg_26 := Lib.hid (show w26.heap[w25.heap.size]? = some (.cells #[.bool (decide (my < 0)), .slice A25 (digs my.natAbs).length c25, .int .i64 yy] 26 (0, 0)) by rw [hW]; have := heap_alloc_new w25 (.cells #[.bool (decide (my < 0)), .slice A25 (digs my.natAbs).length c25, .int .i64 yy] 26); simpa using this)
  have Gbg : w.heap.size ≤ w25.heap.size := by have := L25.out.1.size; omega
  have Nxbg : w.heap.size < w25.heap.size := by have := heap_lt Rx_25.out; omega
  have Nybg : w.heap.size + 1 < w25.heap.size := by have := heap_lt Ry_25.out; omega
  have Nzbg : w.heap.size + 1 + 1 < w25.heap.size := by have := heap_lt Rz_25.out; omega
  have Ntxbg : w3.heap.size < w25.heap.size := by have := heap_lt Rtx_25.out; omega
  have Ntybg : w5.heap.size < w25.heap.size := by have := heap_lt Rty_25.out; omega
  have Ntzbg : w7.heap.size < w25.heap.size := by have := heap_lt Rtz_25.out; omega
  have Nbdbg : w9.heap.size < w25.heap.size := by have := heap_lt Rbd_25.out; omega
  have Nbsbg : w11.heap.size < w25.heap.size := by have := heap_lt Rbs_25.out; omega
  have Nbpbg : w13.heap.size < w25.heap.size := by have := heap_lt Rbp_25.out; omega
  have Nbqbg : w15.heap.size < w25.heap.size := by have := heap_lt Rbq_25.out; omega
  have Nbtbg : w17.heap.size < w25.heap.size := by have := heap_lt Rbt_25.out; omega
  have Nbubg : w19.heap.size < w25.heap.size := by have := heap_lt Rbu_25.out; omega
  have Nbvbg : w21.heap.size < w25.heap.size := by have := heap_lt Rbv_25.out; omega
  have Nbjbg : w23.heap.size < w25.heap.size := by have := heap_lt Rbj_25.out; omega
  clear hW hb
  clear fbs0 zbs0 fbs1 zbs1 fbs2 zbs2 xbs fbt0 zbt0 fbt1 zbt1 fbt2 zbt2 xbt
  refine (dsame_d (m := Ms) (n := Ms) (x := Es) (y := Es) (q := true) (L26.out.get (A := A11) (c := c11) (xs := digs Ms.natAbs) (by simp)) (L26.out.get (A := A17) (c := c17) (xs := digs Ms.natAbs) (by simp)) Ds.out (by simp)).mono ?_
  rintro e w27 ⟨rfl, hb⟩
  have L27 := Lib.hid (L26.out.step hb)
  have Rx_27 := Lib.hid (cells_of Rx_26.out hb)
  have Ry_27 := Lib.hid (cells_of Ry_26.out hb)
  have Rz_27 := Lib.hid (cells_of Rz_26.out hb)
  have Rtx_27 := Lib.hid (cells_of Rtx_26.out hb)
  have Rty_27 := Lib.hid (cells_of Rty_26.out hb)
  have Rtz_27 := Lib.hid (cells_of Rtz_26.out hb)
  have Rbd_27 := Lib.hid (cells_of Rbd_26.out hb)
  have Rbs_27 := Lib.hid (cells_of Rbs_26.out hb)
  have Rbp_27 := Lib.hid (cells_of Rbp_26.out hb)
  have Rbq_27 := Lib.hid (cells_of Rbq_26.out hb)
  have Rbt_27 := Lib.hid (cells_of Rbt_26.out hb)
  have Rbu_27 := Lib.hid (cells_of Rbu_26.out hb)
  have Rbv_27 := Lib.hid (cells_of Rbv_26.out hb)
  have Rbj_27 := Lib.hid (cells_of Rbj_26.out hb)
  have Rbg_27 := Lib.hid (cells_of Rbg_26.out hb)
  clear hb 
  have fbu0 := row_c (i := 0) Rbu_27.out rfl
  have zbu0 := frozen_of_row _ _ 0 _ _ Rbu_27.out
  have fbu1 := row_c (i := 1) Rbu_27.out rfl
  have zbu1 := frozen_of_row _ _ 1 _ _ Rbu_27.out
  have fbu2 := row_c (i := 2) Rbu_27.out rfl
  have zbu2 := frozen_of_row _ _ 2 _ _ Rbu_27.out
  have xbu := heap_lt Rbu_27.out
  have fbj0 := row_c (i := 0) Rbj_27.out rfl
  have zbj0 := frozen_of_row _ _ 0 _ _ Rbj_27.out
  have fbj1 := row_c (i := 1) Rbj_27.out rfl
  have zbj1 := frozen_of_row _ _ 1 _ _ Rbj_27.out
  have fbj2 := row_c (i := 2) Rbj_27.out rfl
  have zbj2 := frozen_of_row _ _ 2 _ _ Rbj_27.out
  have xbj := heap_lt Rbj_27.out
  go_wp2_with fail
  refine (dsame_d (m := Mt) (n := Mt) (x := Et) (y := Et) (q := true) (L27.out.get (A := A19) (c := c19) (xs := digs Mt.natAbs) (by simp)) (L27.out.get (A := A23) (c := c23) (xs := digs Mt.natAbs) (by simp)) Du.out (by simp)).mono ?_
  rintro e w28 ⟨rfl, hb⟩
  have L28 := Lib.hid (L27.out.step hb)
  clear fbu0 zbu0 fbu1 zbu1 fbu2 zbu2 xbu fbj0 zbj0 fbj1 zbj1 fbj2 zbj2 xbj
  have Rx_28 := Lib.hid (cells_of Rx_27.out hb)
  have Ry_28 := Lib.hid (cells_of Ry_27.out hb)
  have Rz_28 := Lib.hid (cells_of Rz_27.out hb)
  have Rtx_28 := Lib.hid (cells_of Rtx_27.out hb)
  have Rty_28 := Lib.hid (cells_of Rty_27.out hb)
  have Rtz_28 := Lib.hid (cells_of Rtz_27.out hb)
  have Rbd_28 := Lib.hid (cells_of Rbd_27.out hb)
  have Rbs_28 := Lib.hid (cells_of Rbs_27.out hb)
  have Rbp_28 := Lib.hid (cells_of Rbp_27.out hb)
  have Rbq_28 := Lib.hid (cells_of Rbq_27.out hb)
  have Rbt_28 := Lib.hid (cells_of Rbt_27.out hb)
  have Rbu_28 := Lib.hid (cells_of Rbu_27.out hb)
  have Rbv_28 := Lib.hid (cells_of Rbv_27.out hb)
  have Rbj_28 := Lib.hid (cells_of Rbj_27.out hb)
  have Rbg_28 := Lib.hid (cells_of Rbg_27.out hb)
  clear hb 
  have fbg0 := row_c (i := 0) Rbg_28.out rfl
  have zbg0 := frozen_of_row _ _ 0 _ _ Rbg_28.out
  have fbg1 := row_c (i := 1) Rbg_28.out rfl
  have zbg1 := frozen_of_row _ _ 1 _ _ Rbg_28.out
  have fbg2 := row_c (i := 2) Rbg_28.out rfl
  have zbg2 := frozen_of_row _ _ 2 _ _ Rbg_28.out
  have xbg := heap_lt Rbg_28.out
  have fty0 := row_c (i := 0) Rty_28.out rfl
  have zty0 := frozen_of_row _ _ 0 _ _ Rty_28.out
  have fty1 := row_c (i := 1) Rty_28.out rfl
  have zty1 := frozen_of_row _ _ 1 _ _ Rty_28.out
  have fty2 := row_c (i := 2) Rty_28.out rfl
  have zty2 := frozen_of_row _ _ 2 _ _ Rty_28.out
  have xty := heap_lt Rty_28.out
  go_wp2_with fail
  refine (dsame_d (m := my) (n := my) (x := yy) (y := yy) (q := true) (L28.out.get (A := A25) (c := c25) (xs := digs my.natAbs) (by simp)) (L28.out.get (A := A5) (c := c5) (xs := digs my.natAbs) (by simp)) Dg.out (by simp)).mono ?_
  rintro e w29 ⟨rfl, hb⟩
  have L29 := Lib.hid (L28.out.step hb)
  clear fbg0 zbg0 fbg1 zbg1 fbg2 zbg2 xbg fty0 zty0 fty1 zty1 fty2 zty2 xty
  have Rx_29 := Lib.hid (cells_of Rx_28.out hb)
  have Ry_29 := Lib.hid (cells_of Ry_28.out hb)
  have Rz_29 := Lib.hid (cells_of Rz_28.out hb)
  have Rtx_29 := Lib.hid (cells_of Rtx_28.out hb)
  have Rty_29 := Lib.hid (cells_of Rty_28.out hb)
  have Rtz_29 := Lib.hid (cells_of Rtz_28.out hb)
  have Rbd_29 := Lib.hid (cells_of Rbd_28.out hb)
  have Rbs_29 := Lib.hid (cells_of Rbs_28.out hb)
  have Rbp_29 := Lib.hid (cells_of Rbp_28.out hb)
  have Rbq_29 := Lib.hid (cells_of Rbq_28.out hb)
  have Rbt_29 := Lib.hid (cells_of Rbt_28.out hb)
  have Rbu_29 := Lib.hid (cells_of Rbu_28.out hb)
  have Rbv_29 := Lib.hid (cells_of Rbv_28.out hb)
  have Rbj_29 := Lib.hid (cells_of Rbj_28.out hb)
  have Rbg_29 := Lib.hid (cells_of Rbg_28.out hb)
  clear hb 
  have fbs0 := row_c (i := 0) Rbs_29.out rfl
  have zbs0 := frozen_of_row _ _ 0 _ _ Rbs_29.out
  have fbs1 := row_c (i := 1) Rbs_29.out rfl
  have zbs1 := frozen_of_row _ _ 1 _ _ Rbs_29.out
  have fbs2 := row_c (i := 2) Rbs_29.out rfl
  have zbs2 := frozen_of_row _ _ 2 _ _ Rbs_29.out
  have xbs := heap_lt Rbs_29.out
  go_wp2_with fail
  refine (dright_any A11 c11 (decide (Ms < 0)) (digs Ms.natAbs) Es _ (L29.out.get (A := A11) (c := c11) (xs := digs Ms.natAbs) (by simp)) true (dyR_num Rs.out) (Nat.le_trans Ds.out (by omega))).mono ?_
  rintro e w30 ⟨rfl, hb⟩
  have L30 := Lib.hid (L29.out.step hb)
  clear fbs0 zbs0 fbs1 zbs1 fbs2 zbs2 xbs
  have Rx_30 := Lib.hid (cells_of Rx_29.out hb)
  have Ry_30 := Lib.hid (cells_of Ry_29.out hb)
  have Rz_30 := Lib.hid (cells_of Rz_29.out hb)
  have Rtx_30 := Lib.hid (cells_of Rtx_29.out hb)
  have Rty_30 := Lib.hid (cells_of Rty_29.out hb)
  have Rtz_30 := Lib.hid (cells_of Rtz_29.out hb)
  have Rbd_30 := Lib.hid (cells_of Rbd_29.out hb)
  have Rbs_30 := Lib.hid (cells_of Rbs_29.out hb)
  have Rbp_30 := Lib.hid (cells_of Rbp_29.out hb)
  have Rbq_30 := Lib.hid (cells_of Rbq_29.out hb)
  have Rbt_30 := Lib.hid (cells_of Rbt_29.out hb)
  have Rbu_30 := Lib.hid (cells_of Rbu_29.out hb)
  have Rbv_30 := Lib.hid (cells_of Rbv_29.out hb)
  have Rbj_30 := Lib.hid (cells_of Rbj_29.out hb)
  have Rbg_30 := Lib.hid (cells_of Rbg_29.out hb)
  clear hb 
  go_wp2
  go_ret
  exact ⟨rfl, L30.out.1⟩

theorem dyadLaws_any  (Ax : Option Addr) (cx : Nat) (sx : Bool) (xsx : List Nat) (ex : Int) (Ay : Option Addr) (cy : Nat) (sy : Bool) (xsy : List Nat) (ey : Int) (Az : Option Addr) (cz : Nat) (sz : Bool) (xsz : List Nat) (ez : Int) (n : Int) (w : World)  (hx : Dg w Ax cx xsx) (lx : xsx.length ≤ 9223372036854775807) (ex0 : -9223372036854775808 ≤ ex) (ex1 : ex ≤ 9223372036854775807) (hy : Dg w Ay cy xsy) (ly : xsy.length ≤ 9223372036854775807) (ey0 : -9223372036854775808 ≤ ey) (ey1 : ey ≤ 9223372036854775807) (hz : Dg w Az cz xsz) (lz : xsz.length ≤ 9223372036854775807) (ez0 : -9223372036854775808 ≤ ez) (ez1 : ez ≤ 9223372036854775807) (n0 : -9223372036854775808 ≤ n) (n1 : n ≤ 9223372036854775807) (hT : T32 w) :
    Calls Tryd.prog 9 #[.agg #[.bool sx, .slice Ax xsx.length cx, .int .i64 ex], .agg #[.bool sy, .slice Ay xsy.length cy, .int .i64 ey], .agg #[.bool sz, .slice Az xsz.length cz, .int .i64 ez], .int .i64 n] w fun e w' => e = .returned (.bool true) ∧ Below w.heap.size w w' := by
  by_cases hn : n < 0
  · exact dyadLaws_n Ax cx sx xsx ex Ay cy sy xsy ey Az cz sz xsz ez n w hx lx ex0 ex1 hy ly ey0 ey1 hz lz ez0 ez1 n0 n1 hT hn
  · exact dyadLaws_p Ax cx sx xsx ex Ay cy sy xsy ey Az cz sz xsz ez n w hx lx ex0 ex1 hy ly ey0 ey1 hz lz ez0 ez1 n0 n1 hT (by omega)
end Go.Proofs.YtnfafgpnnpapdaaDoor
end

section
/-
  DyadLaws, FOR EVERY ARGUMENT: the law returns true, and each argument reads behind the call as it read ahead of it. THE TIED CARD.
-/
namespace Go.Proofs.YtnfafgpnnpapdaaDoor.dyadLaws
open Go Go.ChangeShapes Go.WideShapes Go.ChangeAt Go.RowKit
set_option linter.unusedVariables false
/-- The door's own heap meets the condition. -/
theorem door_met (os : Os) (args : Array Value) : laidMetH Tryd.prog Rows.dyadLawsRow.laid ((World.doorLaid Tryd.prog 400 os).forCall (fun _ _ => 0) ⟨#[], args, []⟩).memory :=
  laidMetH_of_parts3 (fuel := 8) (laidMet_of_run' 8 (by kernel_rfl) (by kernel_rfl)) (by kernel_rfl) (by kernel_rfl)
set_option maxRecDepth 100000 in
theorem lifted (os : Os) (started : os.Started) (H : Type) (enc : TypeId × Value → H) :
    ReturnsInHanded {} Tryd.checked os 9 .any (fun w args => (Rows.dyadLawsSpec.pre enc Tryd.prog Tryd.f9 [] false w args ∧ laidMetH Tryd.prog Rows.dyadLawsRow.laid w) ∧ sizedMet enc Tryd.prog Tryd.f9 (OpenSpec.ofChange Rows.dyadLawsSpec) false w args)
      (Rows.dyadLawsSpec.post enc Tryd.prog Tryd.f9 false true false false) := by
  refine returnsInHanded_of_change_and (C := Tryd.checked) (X := fun w _ => laidMetH Tryd.prog Rows.dyadLawsRow.laid w) (fun _ _ _ hh h => h.of_heap hh) own started (by kernel_rfl) Tryd.func9
    (ChangeSpec.witness_shaped (enc := enc) (C := Tryd.checked) (os := os) (X := fun w _ => laidMetH Tryd.prog Rows.dyadLawsRow.laid w) false (World.doorLaid Tryd.prog 400 os) #[.agg #[.bool false, .slice none 0 0, .int .i64 0], .agg #[.bool false, .slice none 0 0, .int .i64 0], .agg #[.bool false, .slice none 0 0, .int .i64 0], .int .i64 0] 8 rfl (World.shaped_of_RefB (by kernel_rfl) (by kernel_rfl)) (by kernel_rfl) (by kernel_rfl) (by kernel_rfl) (door_met os _)) ?_
  intro W base args ds gs before hval0 hW _ _ hL _
  rw [MakeChecks.laidMetH_plain _ _ _ (by kernel_rfl)] at hL
  have htab := t32_laid hL
  clear hL
  have hval : ∀ (j : Nat) t v, Tryd.f9.params[j]? = some t → args[j]? = some v → Value.okWide Tryd.prog W .any base t v := hval0
  have hW' := hW
  obtain ⟨p, q, hA0, hV, rfl, hfz, hnd⟩ := hW
  have hA : DataW.TrodAll enc Tryd.prog W 0 (fun _ => true) true Tryd.f9.params.toList args.toList ds p := hA0
  rw [Tryd.params9] at hA hval
  obtain ⟨v0, vs0, d0, ds0, p0, q0, hargs, rfl, rfl, h0, r0⟩ := trodAll_cons hA
  obtain ⟨v1, vs1, d1, ds1, p1, q1, rfl, rfl, rfl, h1, r1⟩ := trodAll_cons r0
  obtain ⟨v2, vs2, d2, ds2, p2, q2, rfl, rfl, rfl, h2, r2⟩ := trodAll_cons r1
  obtain ⟨v3, vs3, d3, ds3, p3, q3, rfl, rfl, rfl, h3, r3⟩ := trodAll_cons r2
  obtain ⟨rfl, rfl, rfl⟩ := trodAll_nil r3
  obtain rfl : args = #[v0, v1, v2, v3] := by cases args; simp_all
  obtain ⟨rfl, rfl⟩ := trodVars_none hV
  obtain ⟨s0, A0, c0, xs0, x0, rfl, g0, l0, x00, x01⟩ := open_d (hval 0 _ _ rfl rfl) h0
  obtain ⟨s1, A1, c1, xs1, x1, rfl, g1, l1, x10, x11⟩ := open_d (hval 1 _ _ rfl rfl) h1
  obtain ⟨s2, A2, c2, xs2, x2, rfl, g2, l2, x20, x21⟩ := open_d (hval 2 _ _ rfl rfl) h2
  obtain ⟨a3, rfl, e3, e3', g3⟩ := open_int Tryd.underlying3 (hval 3 _ _ rfl rfl) h3
  clear hA0
  simp only [List.append_nil] at hW'
  refine (dyadLaws_any A0 c0 s0 xs0 x0 A1 c1 s1 xs1 x1 A2 c2 s2 xs2 x2 a3 W g0 l0 x00 x01 g1 l1 x10 x11 g2 l2 x20 x21 (i64_lo g3) (i64_hi g3) htab).mono fun e W' ⟨he, hb⟩ => ?_
  subst he
  have hlt := hW'.lt
  refine ⟨_, rfl, law_post (tb := 4) hW' hb rfl rfl Tryd.underlying4 rfl rfl fun sp hsp => ?_⟩
  have hr := trodAll_cons_mk (again (by kernel_rfl) (of_decide_eq_true (by kernel_rfl)) h0 hb (fun x hx => hlt x (by simp [hx])) sp (fun x hx => hsp x (by simp [hx]))) (trodAll_cons_mk (again (by kernel_rfl) (of_decide_eq_true (by kernel_rfl)) h1 hb (fun x hx => hlt x (by simp [hx])) sp (fun x hx => hsp x (by simp [hx]))) (trodAll_cons_mk (again (by kernel_rfl) (of_decide_eq_true (by kernel_rfl)) h2 hb (fun x hx => hlt x (by simp [hx])) sp (fun x hx => hsp x (by simp [hx]))) (trodAll_cons_mk (again (by kernel_rfl) (of_decide_eq_true (by kernel_rfl)) h3 hb (fun x hx => hlt x (by simp [hx])) sp (fun x hx => hsp x (by simp [hx]))) trodAll_mk0)))
  simp only [List.append_nil] at hr
  exact hr
theorem row_holds : Rows.DyadLawsSaid :=
  OpenClaim.holds_of_wide 9 Tryd.f9 rfl rfl rfl rfl rfl rfl rfl ⟨rfl, rfl, rfl, rfl, rfl⟩ rfl rfl rfl rfl rfl (by kernel_rfl) Tryd.func9 (by kernel_rfl)
    (of_decide_eq_true (by kernel_rfl)) (by unfold Func.isWrapper; first | (rw [if_pos (by decide +kernel)]; kernel_rfl) | (rw [if_neg (by decide +kernel)]; exact ⟨rfl, rfl⟩))
    (fun os started H enc _ => lifted os started H enc)
/-- THE TIED CARD. -/
theorem proved : Rows.DyadLawsCardSaid :=
  Claim7.holds_tied_plain_at .later [] [.data] true (true, "7c66bf396cc85edd26b252ab6783573fce3f6eda62d94517dafae4d8f0360cd0") false
    row_holds (fun _ h => by cases h) (by kernel_rfl) (fun _ h => by cases h) dyadLaws_row_tie rfl ⟨rfl, rfl⟩ (by kernel_rfl) rfl
    (fun f fn hf hfn => by
      obtain rfl : f = 9 := Option.some.inj ((show Tryd.prog.funcNamed Rows.dyadLawsRow.func = some 9 by kernel_rfl).symm.trans hf) |>.symm
      obtain rfl : fn = Tryd.f9 := (Option.some.inj (Tryd.func9.symm.trans hfn)).symm
      exact ⟨by kernel_rfl, fun j t ht => by
        have hall : (Tryd.f9.params.toList.all fun u => !Tryd.prog.wantsStandIn u) = true := by kernel_rfl
        exact (show Tryd.prog.wantsStandIn t = false by simpa using List.all_eq_true.1 hall t (Array.mem_toList_iff.2 (Array.mem_of_getElem? ht)))⟩)
    (by kernel_rfl)
end Go.Proofs.YtnfafgpnnpapdaaDoor.dyadLaws
end
