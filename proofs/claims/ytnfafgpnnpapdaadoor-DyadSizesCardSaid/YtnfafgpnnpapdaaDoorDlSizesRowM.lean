import Derived.Test.YtnfafgpnnpapdaaDoorMB8
import Derived.Test.YtnfafgpnnpapdaaDoorMB9
import Derived.Test.YtnfafgpnnpapdaaDoorMB5
import Derived.Test.YtnfafgpnnpapdaaDoorTie
import Derived.Test.YtnfafgpnnpapdaaDoorCards
import Derived.SevenTiedAt
import Derived.OpenShut
import Derived.ChangeMaps5
section
/-
  DyadSteps.
-/
namespace Go.Proofs.YtnfafgpnnpapdaaDoor
open Go.RowKit
set_option linter.unusedSimpArgs false
set_option linter.unusedVariables false
theorem Tm.bd {M E : Int} (h : Tm M E) : Bd (-300) 492 M E := by
  refine ⟨h.1, ?_⟩
  by_cases h0 : M = 0
  · exact .inl h0
  · exact .inr (h.2.2 h0)
theorem Bd.rt {L H M E : Int} (h : Bd L H M E) (hL : -65536 ≤ L) (hH : H ≤ 65536) : Rt M E := by
  refine ⟨h.1, ?_⟩
  rcases h.2 with h0 | ⟨a, b⟩
  · have := nf_zero h.1 h0; omega
  · omega

set_option maxHeartbeats 8000000 in
set_option maxRecDepth 100000 in
theorem dyadSteps_any  (Ax : Option Addr) (cx : Nat) (sx : Bool) (xsx : List Nat) (ex : Int) (p : Int) (q : Int) (up : Bool) (w : World)  (hx : Dg w Ax cx xsx) (lx : xsx.length ≤ 9223372036854775807) (ex0 : -9223372036854775808 ≤ ex) (ex1 : ex ≤ 9223372036854775807) (p0 : -9223372036854775808 ≤ p) (p1 : p ≤ 9223372036854775807) (q0 : -9223372036854775808 ≤ q) (q1 : q ≤ 9223372036854775807) (hT : T32 w):
    Calls Tryd.prog 14 #[.agg #[.bool sx, .slice Ax xsx.length cx, .int .i64 ex], .int .i64 p, .int .i64 q, .bool up] w fun e w' => e = .returned (.bool true) ∧ Below w.heap.size w w' := by
  obtain ⟨mx, hmx⟩ : ∃ m, nm (sg sx (val (xsx.take 6))) = m := ⟨_, rfl⟩
  obtain ⟨yx, hyx⟩ : ∃ m, nx (sg sx (val (xsx.take 6))) (tameE ex) = m := ⟨_, rfl⟩
  have tx : Tm mx yx := hmx ▸ hyx ▸ tame_tm hx.2.1
  have bx := tx.bd
  have HMx := Lib.hid hmx
  have HYx := Lib.hid hyx
  have LXx := Lib.hid lx
  have E0x := Lib.hid ex0
  have E1x := Lib.hid ex1
  have Rx := Lib.hid tx.rt
  have Ix := Lib.hid tx.inR
  have Dx := Lib.hid (inr_len tx.inR)
  obtain ⟨Pp, hPp⟩ : ∃ vv, precV p = vv := ⟨_, rfl⟩
  have hPbp := precV_bd p
  rw [hPp] at hPbp
  obtain ⟨kp, hkp⟩ : ∃ k : Nat, (k : Int) = Pp := ⟨Pp.toNat, by omega⟩
  have HPp := Lib.hid hPp
  have HKp := Lib.hid hkp
  have Q0p := Lib.hid p0
  have Q1p := Lib.hid p1
  have hk2p : 2 ≤ kp := by omega
  have hk4p : kp ≤ 400 := by omega
  have hk3p : kp ≤ 200 := by omega
  obtain ⟨Pq, hPq⟩ : ∃ vv, precV q = vv := ⟨_, rfl⟩
  have hPbq := precV_bd q
  rw [hPq] at hPbq
  obtain ⟨kq, hkq⟩ : ∃ k : Nat, (k : Int) = Pq := ⟨Pq.toNat, by omega⟩
  have HPq := Lib.hid hPq
  have HKq := Lib.hid hkq
  have Q0q := Lib.hid q0
  have Q1q := Lib.hid q1
  have hk2q : 2 ≤ kq := by omega
  have hk4q : kq ≤ 400 := by omega
  have hk3q : kq ≤ 200 := by omega
  obtain ⟨M1, E1, r1⟩ := rd_exists mx yx tx.1 (max kp kq) up (by omega)
  have b1 := bx.round (by omega) r1
  obtain ⟨M2, E2, r2⟩ := rd_exists M1 E1 b1.1 (min kp kq) up (by omega)
  have b2 := b1.round (by omega) r2
  have r3 := r1.steps (by omega) (by omega) r2
  have Ru := Lib.hid (Bd.rt b1 (by omega) (by omega))
  have Iu := Lib.hid (Bd.inR b1 (by omega) (by omega))
  have Du := Lib.hid (inr_len Iu.out)
  have Rv := Lib.hid (Bd.rt b2 (by omega) (by omega))
  have Iv := Lib.hid (Bd.inR b2 (by omega) (by omega))
  have Dv := Lib.hid (inr_len Iv.out)
  have Rz := Lib.hid (Bd.rt b2 (by omega) (by omega))
  have Iz := Lib.hid (Bd.inR b2 (by omega) (by omega))
  have Dz := Lib.hid (inr_len Iz.out)
  have HRu := Lib.hid r1
  have HRv := Lib.hid r2
  have HRz := Lib.hid r3
  obtain ⟨Pm, hPm⟩ : ∃ k : Int, max Pp Pq = k := ⟨_, rfl⟩
  obtain ⟨Pn, hPn⟩ : ∃ k : Int, min Pp Pq = k := ⟨_, rfl⟩
  have KM := Lib.hid (show ((max kp kq : Nat) : Int) = Pm by omega)
  have KN := Lib.hid (show ((min kp kq : Nat) : Int) = Pn by omega)
  have hm2 : 2 ≤ max kp kq ∧ max kp kq ≤ 400 := by omega
  have hn2 : 2 ≤ min kp kq ∧ min kp kq ≤ 400 := by omega
  have HM2 := Lib.hid hm2
  have HN2 := Lib.hid hn2
  have HT := Lib.hid hT
  clear hT
  have L0 := Lib.hid ((live_start w).add hx)
  clear hx lx ex0 ex1 hmx hyx tx bx p0 p1 hPp hPbp hkp q0 q1 hPq hPbq hkq r1 b1 r2 b2 r3 hm2 hn2
  go_enter Tryd.func14, Tryd.ntmps14
  go_wp2_with fail
  obtain ⟨v1, hW⟩ : ∃ W : World, W = (w.alloc (.cells #[.bool sx, .slice Ax xsx.length cx, .int .i64 ex] 26)) := ⟨_, rfl⟩
  rw [← hW]
  have hb : Below w.heap.size w v1 := by rw [hW]; exact ((Below.refl _ _).alloc (by simp <;> omega) _)
  have L1 := Lib.hid (L0.out.step hb)
  have Rx_1 := Lib.hid (show v1.heap[w.heap.size]? = some (.cells #[.bool sx, .slice Ax xsx.length cx, .int .i64 ex] 26 (0, 0)) by rw [hW]; have := heap_alloc_new w (.cells #[.bool sx, .slice Ax xsx.length cx, .int .i64 ex] 26); simpa using this)
  have Gx : w.heap.size ≤ w.heap.size := by have := L0.out.1.size; omega
  clear hW hb
  refine (dexamples_any _ (t32_live HT.out L1.out)).mono ?_
  rintro e w2 ⟨rfl, hb⟩
  have L2 := Lib.hid (L1.out.step hb)
  have Rx_2 := Lib.hid (cells_of Rx_1.out hb)
  clear hb 
  have fx0 := row_c (i := 0) Rx_2.out rfl
  have zx0 := frozen_of_row _ _ 0 _ _ Rx_2.out
  have fx1 := row_c (i := 1) Rx_2.out rfl
  have zx1 := frozen_of_row _ _ 1 _ _ Rx_2.out
  have fx2 := row_c (i := 2) Rx_2.out rfl
  have zx2 := frozen_of_row _ _ 2 _ _ Rx_2.out
  have xx := heap_lt Rx_2.out
  go_wp2_with fail
  refine (tame_any (M := mx) (E := yx) (L2.out.get (A := Ax) (c := cx) (xs := xsx) (by simp)) (t32_live HT.out L2.out) LXx.out E0x.out E1x.out HMx.out HYx.out).mono ?_
  rintro e w3 ⟨A3, c3, rfl, hd, hb⟩
  have L3 := Lib.hid ((L2.out.step hb).add hd)
  clear fx0 zx0 fx1 zx1 fx2 zx2 xx
  have Rx_3 := Lib.hid (cells_of Rx_2.out hb)
  clear hb hd
  go_wp2_with fail
  obtain ⟨w4, hW⟩ : ∃ W : World, W = (w3.alloc (.cells #[.bool (decide (mx < 0)), .slice A3 (digs mx.natAbs).length c3, .int .i64 yx] 26)) := ⟨_, rfl⟩
  rw [← hW]
  have hb : Below w3.heap.size w3 w4 := by rw [hW]; exact ((Below.refl _ _).alloc (by simp <;> omega) _)
  have L4 := Lib.hid (L3.out.step hb)
  have Rx_4 := Lib.hid (cells_of Rx_3.out hb)
  have Rtx_4 := Lib.hid (show w4.heap[w3.heap.size]? = some (.cells #[.bool (decide (mx < 0)), .slice A3 (digs mx.natAbs).length c3, .int .i64 yx] 26 (0, 0)) by rw [hW]; have := heap_alloc_new w3 (.cells #[.bool (decide (mx < 0)), .slice A3 (digs mx.natAbs).length c3, .int .i64 yx] 26); simpa using this)
  have Gtx : w.heap.size ≤ w3.heap.size := by have := L3.out.1.size; omega
  have Nxtx : w.heap.size < w3.heap.size := by have := heap_lt Rx_3.out; omega
  clear hW hb
  refine (prec_any (q := Pp) Q0p.out Q1p.out HPp.out).mono ?_
  rintro e w5 ⟨rfl, rfl⟩
  go_wp2_with fail
  refine (prec_any (q := Pq) Q0q.out Q1q.out HPq.out).mono ?_
  rintro e w6 ⟨rfl, rfl⟩
  have ftx0 := row_c (i := 0) Rtx_4.out rfl
  have ztx0 := frozen_of_row _ _ 0 _ _ Rtx_4.out
  have ftx1 := row_c (i := 1) Rtx_4.out rfl
  have ztx1 := frozen_of_row _ _ 1 _ _ Rtx_4.out
  have ftx2 := row_c (i := 2) Rtx_4.out rfl
  have ztx2 := frozen_of_row _ _ 2 _ _ Rtx_4.out
  have xtx := heap_lt Rtx_4.out
  go_wp2_with fail
  refine (round_yes (m := mx) (x := yx) (M := M1) (E := E1) (up := up) (L4.out.get (A := A3) (c := c3) (xs := digs mx.natAbs) (by simp)) Dx.out Rx.out (t32_live HT.out L4.out) (p := max kp kq) KM.out HM2.out.1 HM2.out.2 HRu.out Iu.out).mono ?_
  rintro e w7 ⟨A7, c7, rfl, hd, hb⟩
  have L7 := Lib.hid ((L4.out.step hb).add hd)
  clear ftx0 ztx0 ftx1 ztx1 ftx2 ztx2 xtx
  have Rx_7 := Lib.hid (cells_of Rx_4.out hb)
  have Rtx_7 := Lib.hid (cells_of Rtx_4.out hb)
  clear hb hd
  go_wp2_with fail
  obtain ⟨w8, hW⟩ : ∃ W : World, W = (w7.alloc (.cells #[.bool (decide (M1 < 0)), .slice A7 (digs M1.natAbs).length c7, .int .i64 E1] 26)) := ⟨_, rfl⟩
  rw [← hW]
  have hb : Below w7.heap.size w7 w8 := by rw [hW]; exact ((Below.refl _ _).alloc (by simp <;> omega) _)
  have L8 := Lib.hid (L7.out.step hb)
  have Rx_8 := Lib.hid (cells_of Rx_7.out hb)
  have Rtx_8 := Lib.hid (cells_of Rtx_7.out hb)
  have Rbu_8 := Lib.hid (show w8.heap[w7.heap.size]? = some (.cells #[.bool (decide (M1 < 0)), .slice A7 (digs M1.natAbs).length c7, .int .i64 E1] 26 (0, 0)) by rw [hW]; have := heap_alloc_new w7 (.cells #[.bool (decide (M1 < 0)), .slice A7 (digs M1.natAbs).length c7, .int .i64 E1] 26); simpa using this)
  have Gbu : w.heap.size ≤ w7.heap.size := by have := L7.out.1.size; omega
  have Nxbu : w.heap.size < w7.heap.size := by have := heap_lt Rx_7.out; omega
  have Ntxbu : w3.heap.size < w7.heap.size := by have := heap_lt Rtx_7.out; omega
  clear hW hb
  refine (round_yes (m := M1) (x := E1) (M := M2) (E := E2) (up := up) (L8.out.get (A := A7) (c := c7) (xs := digs M1.natAbs) (by simp)) Du.out Ru.out (t32_live HT.out L8.out) (p := min kp kq) KN.out HN2.out.1 HN2.out.2 HRv.out Iv.out).mono ?_
  rintro e w9 ⟨A9, c9, rfl, hd, hb⟩
  have L9 := Lib.hid ((L8.out.step hb).add hd)
  have Rx_9 := Lib.hid (cells_of Rx_8.out hb)
  have Rtx_9 := Lib.hid (cells_of Rtx_8.out hb)
  have Rbu_9 := Lib.hid (cells_of Rbu_8.out hb)
  clear hb hd
  have ftx0 := row_c (i := 0) Rtx_9.out rfl
  have ztx0 := frozen_of_row _ _ 0 _ _ Rtx_9.out
  have ftx1 := row_c (i := 1) Rtx_9.out rfl
  have ztx1 := frozen_of_row _ _ 1 _ _ Rtx_9.out
  have ftx2 := row_c (i := 2) Rtx_9.out rfl
  have ztx2 := frozen_of_row _ _ 2 _ _ Rtx_9.out
  have xtx := heap_lt Rtx_9.out
  go_wp2_with fail
  obtain ⟨w10, hW⟩ : ∃ W : World, W = (w9.alloc (.cells #[.bool (decide (M2 < 0)), .slice A9 (digs M2.natAbs).length c9, .int .i64 E2] 26)) := ⟨_, rfl⟩
  rw [← hW]
  have hb : Below w9.heap.size w9 w10 := by rw [hW]; exact ((Below.refl _ _).alloc (by simp <;> omega) _)
  have L10 := Lib.hid (L9.out.step hb)
  have Rx_10 := Lib.hid (cells_of Rx_9.out hb)
  have Rtx_10 := Lib.hid (cells_of Rtx_9.out hb)
  have Rbu_10 := Lib.hid (cells_of Rbu_9.out hb)
  have Rbv_10 := Lib.hid (show w10.heap[w9.heap.size]? = some (.cells #[.bool (decide (M2 < 0)), .slice A9 (digs M2.natAbs).length c9, .int .i64 E2] 26 (0, 0)) by rw [hW]; have := heap_alloc_new w9 (.cells #[.bool (decide (M2 < 0)), .slice A9 (digs M2.natAbs).length c9, .int .i64 E2] 26); simpa using this)
  have Gbv : w.heap.size ≤ w9.heap.size := by have := L9.out.1.size; omega
  have Nxbv : w.heap.size < w9.heap.size := by have := heap_lt Rx_9.out; omega
  have Ntxbv : w3.heap.size < w9.heap.size := by have := heap_lt Rtx_9.out; omega
  have Nbubv : w7.heap.size < w9.heap.size := by have := heap_lt Rbu_9.out; omega
  clear hW hb
  clear ftx0 ztx0 ftx1 ztx1 ftx2 ztx2 xtx
  refine (round_yes (m := mx) (x := yx) (M := M2) (E := E2) (up := up) (L10.out.get (A := A3) (c := c3) (xs := digs mx.natAbs) (by simp)) Dx.out Rx.out (t32_live HT.out L10.out) (p := min kp kq) KN.out HN2.out.1 HN2.out.2 HRz.out Iz.out).mono ?_
  rintro e w11 ⟨A11, c11, rfl, hd, hb⟩
  have L11 := Lib.hid ((L10.out.step hb).add hd)
  have Rx_11 := Lib.hid (cells_of Rx_10.out hb)
  have Rtx_11 := Lib.hid (cells_of Rtx_10.out hb)
  have Rbu_11 := Lib.hid (cells_of Rbu_10.out hb)
  have Rbv_11 := Lib.hid (cells_of Rbv_10.out hb)
  clear hb hd
  have fbv0 := row_c (i := 0) Rbv_11.out rfl
  have zbv0 := frozen_of_row _ _ 0 _ _ Rbv_11.out
  have fbv1 := row_c (i := 1) Rbv_11.out rfl
  have zbv1 := frozen_of_row _ _ 1 _ _ Rbv_11.out
  have fbv2 := row_c (i := 2) Rbv_11.out rfl
  have zbv2 := frozen_of_row _ _ 2 _ _ Rbv_11.out
  have xbv := heap_lt Rbv_11.out
  go_wp2_with fail
  obtain ⟨w12, hW⟩ : ∃ W : World, W = (w11.alloc (.cells #[.bool (decide (M2 < 0)), .slice A11 (digs M2.natAbs).length c11, .int .i64 E2] 26)) := ⟨_, rfl⟩
  rw [← hW]
  have hb : Below w11.heap.size w11 w12 := by rw [hW]; exact ((Below.refl _ _).alloc (by simp <;> omega) _)
  have L12 := Lib.hid (L11.out.step hb)
  have Rx_12 := Lib.hid (cells_of Rx_11.out hb)
  have Rtx_12 := Lib.hid (cells_of Rtx_11.out hb)
  have Rbu_12 := Lib.hid (cells_of Rbu_11.out hb)
  have Rbv_12 := Lib.hid (cells_of Rbv_11.out hb)
  have Rbz_12 := Lib.hid (show w12.heap[w11.heap.size]? = some (.cells #[.bool (decide (M2 < 0)), .slice A11 (digs M2.natAbs).length c11, .int .i64 E2] 26 (0, 0)) by rw [hW]; have := heap_alloc_new w11 (.cells #[.bool (decide (M2 < 0)), .slice A11 (digs M2.natAbs).length c11, .int .i64 E2] 26); simpa using this)
  have Gbz : w.heap.size ≤ w11.heap.size := by have := L11.out.1.size; omega
  have Nxbz : w.heap.size < w11.heap.size := by have := heap_lt Rx_11.out; omega
  have Ntxbz : w3.heap.size < w11.heap.size := by have := heap_lt Rtx_11.out; omega
  have Nbubz : w7.heap.size < w11.heap.size := by have := heap_lt Rbu_11.out; omega
  have Nbvbz : w9.heap.size < w11.heap.size := by have := heap_lt Rbv_11.out; omega
  clear hW hb
  clear fbv0 zbv0 fbv1 zbv1 fbv2 zbv2 xbv
  refine (dsame_d (m := M2) (n := M2) (x := E2) (y := E2) (q := true) (L12.out.get (A := A9) (c := c9) (xs := digs M2.natAbs) (by simp)) (L12.out.get (A := A11) (c := c11) (xs := digs M2.natAbs) (by simp)) Dv.out (by simp)).mono ?_
  rintro e w13 ⟨rfl, hb⟩
  have L13 := Lib.hid (L12.out.step hb)
  have Rx_13 := Lib.hid (cells_of Rx_12.out hb)
  have Rtx_13 := Lib.hid (cells_of Rtx_12.out hb)
  have Rbu_13 := Lib.hid (cells_of Rbu_12.out hb)
  have Rbv_13 := Lib.hid (cells_of Rbv_12.out hb)
  have Rbz_13 := Lib.hid (cells_of Rbz_12.out hb)
  clear hb 
  go_wp2
  go_ret
  exact ⟨rfl, L13.out.1⟩
end Go.Proofs.YtnfafgpnnpapdaaDoor
end

section
/-
  DyadSizes.
-/
namespace Go.Proofs.YtnfafgpnnpapdaaDoor
open Go.RowKit
set_option linter.unusedSimpArgs false
set_option linter.unusedVariables false
theorem size_no {A : Option Addr} {c : Nat} {m x : Int} {w : World} (m0 : m = 0) :
    Calls Tryd.prog 26 #[.agg #[.bool (decide (m < 0)), .slice A (digs m.natAbs).length c, .int .i64 x]] w fun e w' => e = .returned (.tuple #[.int .i64 0, .bool false]) ∧ Below w.heap.size w w' := by
  have D1 := Lib.hid (show decide (m = 0) = true by simp [m0])
  have L0 := Lib.hid (live_start w)
  clear m0
  go_enter Tryd.func26, Tryd.ntmps26
  go_wp2_with fail
  refine (isz_d (x := x) D1.out).mono ?_
  rintro e w1 ⟨rfl, hb⟩
  have hb2 := Lib.hid hb
  clear hb
  go_wp2
  exact bodyPost_ret (v := .tuple #[.int .i64 0, .bool false]) (by simp [results, Tryd.results26, go_sem]) rfl ⟨rfl, ((below1 _ _).trans (hb2.out.mono (by simp)))⟩
theorem dcmp_l {A B : Option Addr} {c d : Nat} {m n x y q : Int} {w : World} (h : Dg w A c (digs m.natAbs)) (h' : Dg w B d (digs n.natAbs)) (hl : (digs m.natAbs).length ≤ 400000) (hl' : (digs n.natAbs).length ≤ 400000) (r1 : Rt (m.natAbs : Int) x) (r2 : Rt n y) (hq : cmpd (dv (m.natAbs : Int) x) (dv n y) = q) :
    Calls Tryd.prog 28 #[.agg #[.bool false, .slice A (digs m.natAbs).length c, .int .i64 x], .agg #[.bool (decide (n < 0)), .slice B (digs n.natAbs).length d, .int .i64 y]] w fun e w' => e = .returned (.int .i64 q) ∧ Below w.heap.size w w' := by
  have e : decide ((m.natAbs : Int) < 0) = false := by simp
  have := dcmp_any (m := (m.natAbs : Int)) (n := n) (A := A) (c := c) (B := B) (d := d) (w := w) h h' hl hl' r1 r2 hq
  rw [e] at this; exact this
theorem dcmp_r {A B : Option Addr} {c d : Nat} {m n x y q : Int} {w : World} (h : Dg w A c (digs m.natAbs)) (h' : Dg w B d (digs n.natAbs)) (hl : (digs m.natAbs).length ≤ 400000) (hl' : (digs n.natAbs).length ≤ 400000) (r1 : Rt m x) (r2 : Rt (n.natAbs : Int) y) (hq : cmpd (dv m x) (dv (n.natAbs : Int) y) = q) :
    Calls Tryd.prog 28 #[.agg #[.bool (decide (m < 0)), .slice A (digs m.natAbs).length c, .int .i64 x], .agg #[.bool false, .slice B (digs n.natAbs).length d, .int .i64 y]] w fun e w' => e = .returned (.int .i64 q) ∧ Below w.heap.size w w' := by
  have e : decide ((n.natAbs : Int) < 0) = false := by simp
  have := dcmp_any (m := m) (n := (n.natAbs : Int)) (A := A) (c := c) (B := B) (d := d) (w := w) h h' hl hl' r1 r2 hq
  rw [e] at this; exact this

set_option maxHeartbeats 8000000 in
set_option maxRecDepth 100000 in
theorem dyadSizes_zn  (Ax : Option Addr) (cx : Nat) (sx : Bool) (xsx : List Nat) (ex : Int) (n : Int) (w : World)  (hx : Dg w Ax cx xsx) (lx : xsx.length ≤ 9223372036854775807) (ex0 : -9223372036854775808 ≤ ex) (ex1 : ex ≤ 9223372036854775807) (n0 : -9223372036854775808 ≤ n) (n1 : n ≤ 9223372036854775807) (hT : T32 w) (m0 : nm (sg sx (val (xsx.take 6))) = 0) (hn : n < 0):
    Calls Tryd.prog 12 #[.agg #[.bool sx, .slice Ax xsx.length cx, .int .i64 ex], .int .i64 n] w fun e w' => e = .returned (.bool true) ∧ Below w.heap.size w w' := by
  obtain ⟨mx, hmx⟩ : ∃ m, nm (sg sx (val (xsx.take 6))) = m := ⟨_, rfl⟩
  obtain ⟨yx, hyx⟩ : ∃ m, nx (sg sx (val (xsx.take 6))) (tameE ex) = m := ⟨_, rfl⟩
  have tx : Tm mx yx := hmx ▸ hyx ▸ tame_tm hx.2.1
  have bx := tx.bd
  have HMx := Lib.hid hmx
  have HYx := Lib.hid hyx
  have LXx := Lib.hid lx
  have E0x := Lib.hid ex0
  have E1x := Lib.hid ex1
  have Rx := Lib.hid tx.rt
  have Ix := Lib.hid tx.inR
  have Dx := Lib.hid (inr_len tx.inR)
  rw [hmx] at m0
  obtain ⟨r, hr⟩ : ∃ r, (-(n + 1)).tmod 601 = r := ⟨_, rfl⟩
  have hr2 := Int.tmod_eq_emod_of_nonneg (b := 601) (show 0 ≤ -(n + 1) by omega)
  rw [hr] at hr2
  have r0 : 0 ≤ r := by omega
  have r9 : r ≤ 600 := by omega
  clear hr2
  have C0 := Lib.hid (show cmpd (dv mx yx) 0 = 0 by rw [cmpd_zero, dv_eq0]; exact m0)
  have M0 := Lib.hid m0
  have D0 := Lib.hid (show decide (n < 0) = true by simp; omega)
  have HR0 := Lib.hid hr
  have R0 := Lib.hid r0
  have R9 := Lib.hid r9
  have N0 := Lib.hid n0
  have N1 := Lib.hid n1
  have NN := Lib.hid hn
  have HT := Lib.hid hT
  clear hT
  have L0 := Lib.hid ((live_start w).add hx)
  clear hx lx ex0 ex1 hmx hyx tx bx m0 n0 n1 hn hr r0 r9
  go_enter Tryd.func12, Tryd.ntmps12
  go_wp2_with fail
  obtain ⟨v1, hW⟩ : ∃ W : World, W = (w.alloc (.cells #[.bool sx, .slice Ax xsx.length cx, .int .i64 ex] 26)) := ⟨_, rfl⟩
  rw [← hW]
  have hb : Below w.heap.size w v1 := by rw [hW]; exact ((Below.refl _ _).alloc (by simp <;> omega) _)
  have L1 := Lib.hid (L0.out.step hb)
  have Rx_1 := Lib.hid (show v1.heap[w.heap.size]? = some (.cells #[.bool sx, .slice Ax xsx.length cx, .int .i64 ex] 26 (0, 0)) by rw [hW]; have := heap_alloc_new w (.cells #[.bool sx, .slice Ax xsx.length cx, .int .i64 ex] 26); simpa using this)
  have Gx : w.heap.size ≤ w.heap.size := by have := L0.out.1.size; omega
  clear hW hb
  refine (dexamples_any _ (t32_live HT.out L1.out)).mono ?_
  rintro e w2 ⟨rfl, hb⟩
  have L2 := Lib.hid (L1.out.step hb)
  have Rx_2 := Lib.hid (cells_of Rx_1.out hb)
  clear hb 
  have fx0 := row_c (i := 0) Rx_2.out rfl
  have zx0 := frozen_of_row _ _ 0 _ _ Rx_2.out
  have fx1 := row_c (i := 1) Rx_2.out rfl
  have zx1 := frozen_of_row _ _ 1 _ _ Rx_2.out
  have fx2 := row_c (i := 2) Rx_2.out rfl
  have zx2 := frozen_of_row _ _ 2 _ _ Rx_2.out
  have xx := heap_lt Rx_2.out
  go_wp2_with fail
  refine (tame_any (M := mx) (E := yx) (L2.out.get (A := Ax) (c := cx) (xs := xsx) (by simp)) (t32_live HT.out L2.out) LXx.out E0x.out E1x.out HMx.out HYx.out).mono ?_
  rintro e w3 ⟨A3, c3, rfl, hd, hb⟩
  have L3 := Lib.hid ((L2.out.step hb).add hd)
  clear fx0 zx0 fx1 zx1 fx2 zx2 xx
  have Rx_3 := Lib.hid (cells_of Rx_2.out hb)
  clear hb hd
  have d1 := D0.out
  have hr := HR0.out
  have r0 := R0.out
  have r9 := R9.out
  have n0 := N0.out
  have n1 := N1.out
  have hn := NN.out
  go_wp2_with fail
  obtain ⟨w4, hW⟩ : ∃ W : World, W = (w3.alloc (.cells #[.bool (decide (mx < 0)), .slice A3 (digs mx.natAbs).length c3, .int .i64 yx] 26)) := ⟨_, rfl⟩
  rw [← hW]
  have hb : Below w3.heap.size w3 w4 := by rw [hW]; exact ((Below.refl _ _).alloc (by simp <;> omega) _)
  have L4 := Lib.hid (L3.out.step hb)
  have Rx_4 := Lib.hid (cells_of Rx_3.out hb)
  have Rtx_4 := Lib.hid (show w4.heap[w3.heap.size]? = some (.cells #[.bool (decide (mx < 0)), .slice A3 (digs mx.natAbs).length c3, .int .i64 yx] 26 (0, 0)) by rw [hW]; have := heap_alloc_new w3 (.cells #[.bool (decide (mx < 0)), .slice A3 (digs mx.natAbs).length c3, .int .i64 yx] 26); simpa using this)
  have Gtx : w.heap.size ≤ w3.heap.size := by have := L3.out.1.size; omega
  have Nxtx : w.heap.size < w3.heap.size := by have := heap_lt Rx_3.out; omega
  clear hW hb
  refine (size_no M0.out).mono ?_
  rintro e w5 ⟨rfl, hb⟩
  have L5 := Lib.hid (L4.out.step hb)
  have Rx_5 := Lib.hid (cells_of Rx_4.out hb)
  have Rtx_5 := Lib.hid (cells_of Rtx_4.out hb)
  clear hb 
  clear d1 hr n0 n1 hn
  have ftx0 := row_c (i := 0) Rtx_5.out rfl
  have ztx0 := frozen_of_row _ _ 0 _ _ Rtx_5.out
  have ftx1 := row_c (i := 1) Rtx_5.out rfl
  have ztx1 := frozen_of_row _ _ 1 _ _ Rtx_5.out
  have ftx2 := row_c (i := 2) Rtx_5.out rfl
  have ztx2 := frozen_of_row _ _ 2 _ _ Rtx_5.out
  have xtx := heap_lt Rtx_5.out
  go_wp2_with fail
  refine (dcmp0 (L5.out.get (A := A3) (c := c3) (xs := digs mx.natAbs) (by simp)) (Nat.le_trans Dx.out (by omega)) Rx.out C0.out).mono ?_
  rintro e w6 ⟨rfl, hb⟩
  have L6 := Lib.hid (L5.out.step hb)
  clear ftx0 ztx0 ftx1 ztx1 ftx2 ztx2 xtx
  have Rx_6 := Lib.hid (cells_of Rx_5.out hb)
  have Rtx_6 := Lib.hid (cells_of Rtx_5.out hb)
  clear hb 
  go_wp2
  go_ret
  exact ⟨rfl, L6.out.1⟩

set_option maxHeartbeats 8000000 in
set_option maxRecDepth 100000 in
theorem dyadSizes_zp  (Ax : Option Addr) (cx : Nat) (sx : Bool) (xsx : List Nat) (ex : Int) (n : Int) (w : World)  (hx : Dg w Ax cx xsx) (lx : xsx.length ≤ 9223372036854775807) (ex0 : -9223372036854775808 ≤ ex) (ex1 : ex ≤ 9223372036854775807) (n0 : -9223372036854775808 ≤ n) (n1 : n ≤ 9223372036854775807) (hT : T32 w) (m0 : nm (sg sx (val (xsx.take 6))) = 0) (hn : 0 ≤ n):
    Calls Tryd.prog 12 #[.agg #[.bool sx, .slice Ax xsx.length cx, .int .i64 ex], .int .i64 n] w fun e w' => e = .returned (.bool true) ∧ Below w.heap.size w w' := by
  obtain ⟨mx, hmx⟩ : ∃ m, nm (sg sx (val (xsx.take 6))) = m := ⟨_, rfl⟩
  obtain ⟨yx, hyx⟩ : ∃ m, nx (sg sx (val (xsx.take 6))) (tameE ex) = m := ⟨_, rfl⟩
  have tx : Tm mx yx := hmx ▸ hyx ▸ tame_tm hx.2.1
  have bx := tx.bd
  have HMx := Lib.hid hmx
  have HYx := Lib.hid hyx
  have LXx := Lib.hid lx
  have E0x := Lib.hid ex0
  have E1x := Lib.hid ex1
  have Rx := Lib.hid tx.rt
  have Ix := Lib.hid tx.inR
  have Dx := Lib.hid (inr_len tx.inR)
  rw [hmx] at m0
  obtain ⟨r, hr⟩ : ∃ r, (n).tmod 601 = r := ⟨_, rfl⟩
  have hr2 := Int.tmod_eq_emod_of_nonneg (b := 601) (show 0 ≤ n by omega)
  rw [hr] at hr2
  have r0 : 0 ≤ r := by omega
  have r9 : r ≤ 600 := by omega
  clear hr2
  have C0 := Lib.hid (show cmpd (dv mx yx) 0 = 0 by rw [cmpd_zero, dv_eq0]; exact m0)
  have M0 := Lib.hid m0
  have D0 := Lib.hid (show decide (n < 0) = false by simp; omega)
  have HR0 := Lib.hid hr
  have R0 := Lib.hid r0
  have R9 := Lib.hid r9
  have N0 := Lib.hid n0
  have N1 := Lib.hid n1
  have NN := Lib.hid hn
  have HT := Lib.hid hT
  clear hT
  have L0 := Lib.hid ((live_start w).add hx)
  clear hx lx ex0 ex1 hmx hyx tx bx m0 n0 n1 hn hr r0 r9
  go_enter Tryd.func12, Tryd.ntmps12
  go_wp2_with fail
  obtain ⟨v1, hW⟩ : ∃ W : World, W = (w.alloc (.cells #[.bool sx, .slice Ax xsx.length cx, .int .i64 ex] 26)) := ⟨_, rfl⟩
  rw [← hW]
  have hb : Below w.heap.size w v1 := by rw [hW]; exact ((Below.refl _ _).alloc (by simp <;> omega) _)
  have L1 := Lib.hid (L0.out.step hb)
  have Rx_1 := Lib.hid (show v1.heap[w.heap.size]? = some (.cells #[.bool sx, .slice Ax xsx.length cx, .int .i64 ex] 26 (0, 0)) by rw [hW]; have := heap_alloc_new w (.cells #[.bool sx, .slice Ax xsx.length cx, .int .i64 ex] 26); simpa using this)
  have Gx : w.heap.size ≤ w.heap.size := by have := L0.out.1.size; omega
  clear hW hb
  refine (dexamples_any _ (t32_live HT.out L1.out)).mono ?_
  rintro e w2 ⟨rfl, hb⟩
  have L2 := Lib.hid (L1.out.step hb)
  have Rx_2 := Lib.hid (cells_of Rx_1.out hb)
  clear hb 
  have fx0 := row_c (i := 0) Rx_2.out rfl
  have zx0 := frozen_of_row _ _ 0 _ _ Rx_2.out
  have fx1 := row_c (i := 1) Rx_2.out rfl
  have zx1 := frozen_of_row _ _ 1 _ _ Rx_2.out
  have fx2 := row_c (i := 2) Rx_2.out rfl
  have zx2 := frozen_of_row _ _ 2 _ _ Rx_2.out
  have xx := heap_lt Rx_2.out
  go_wp2_with fail
  refine (tame_any (M := mx) (E := yx) (L2.out.get (A := Ax) (c := cx) (xs := xsx) (by simp)) (t32_live HT.out L2.out) LXx.out E0x.out E1x.out HMx.out HYx.out).mono ?_
  rintro e w3 ⟨A3, c3, rfl, hd, hb⟩
  have L3 := Lib.hid ((L2.out.step hb).add hd)
  clear fx0 zx0 fx1 zx1 fx2 zx2 xx
  have Rx_3 := Lib.hid (cells_of Rx_2.out hb)
  clear hb hd
  have d1 := D0.out
  have hr := HR0.out
  have r0 := R0.out
  have r9 := R9.out
  have n0 := N0.out
  have n1 := N1.out
  have hn := NN.out
  go_wp2_with fail
  obtain ⟨w4, hW⟩ : ∃ W : World, W = (w3.alloc (.cells #[.bool (decide (mx < 0)), .slice A3 (digs mx.natAbs).length c3, .int .i64 yx] 26)) := ⟨_, rfl⟩
  rw [← hW]
  have hb : Below w3.heap.size w3 w4 := by rw [hW]; exact ((Below.refl _ _).alloc (by simp <;> omega) _)
  have L4 := Lib.hid (L3.out.step hb)
  have Rx_4 := Lib.hid (cells_of Rx_3.out hb)
  have Rtx_4 := Lib.hid (show w4.heap[w3.heap.size]? = some (.cells #[.bool (decide (mx < 0)), .slice A3 (digs mx.natAbs).length c3, .int .i64 yx] 26 (0, 0)) by rw [hW]; have := heap_alloc_new w3 (.cells #[.bool (decide (mx < 0)), .slice A3 (digs mx.natAbs).length c3, .int .i64 yx] 26); simpa using this)
  have Gtx : w.heap.size ≤ w3.heap.size := by have := L3.out.1.size; omega
  have Nxtx : w.heap.size < w3.heap.size := by have := heap_lt Rx_3.out; omega
  clear hW hb
  refine (size_no M0.out).mono ?_
  rintro e w5 ⟨rfl, hb⟩
  have L5 := Lib.hid (L4.out.step hb)
  have Rx_5 := Lib.hid (cells_of Rx_4.out hb)
  have Rtx_5 := Lib.hid (cells_of Rtx_4.out hb)
  clear hb 
  clear d1 hr n0 n1 hn
  have ftx0 := row_c (i := 0) Rtx_5.out rfl
  have ztx0 := frozen_of_row _ _ 0 _ _ Rtx_5.out
  have ftx1 := row_c (i := 1) Rtx_5.out rfl
  have ztx1 := frozen_of_row _ _ 1 _ _ Rtx_5.out
  have ftx2 := row_c (i := 2) Rtx_5.out rfl
  have ztx2 := frozen_of_row _ _ 2 _ _ Rtx_5.out
  have xtx := heap_lt Rtx_5.out
  go_wp2_with fail
  refine (dcmp0 (L5.out.get (A := A3) (c := c3) (xs := digs mx.natAbs) (by simp)) (Nat.le_trans Dx.out (by omega)) Rx.out C0.out).mono ?_
  rintro e w6 ⟨rfl, hb⟩
  have L6 := Lib.hid (L5.out.step hb)
  clear ftx0 ztx0 ftx1 ztx1 ftx2 ztx2 xtx
  have Rx_6 := Lib.hid (cells_of Rx_5.out hb)
  have Rtx_6 := Lib.hid (cells_of Rtx_5.out hb)
  clear hb 
  go_wp2
  go_ret
  exact ⟨rfl, L6.out.1⟩

set_option maxHeartbeats 8000000 in
set_option maxRecDepth 100000 in
theorem dyadSizes_yn  (Ax : Option Addr) (cx : Nat) (sx : Bool) (xsx : List Nat) (ex : Int) (n : Int) (w : World)  (hx : Dg w Ax cx xsx) (lx : xsx.length ≤ 9223372036854775807) (ex0 : -9223372036854775808 ≤ ex) (ex1 : ex ≤ 9223372036854775807) (n0 : -9223372036854775808 ≤ n) (n1 : n ≤ 9223372036854775807) (hT : T32 w) (m0 : nm (sg sx (val (xsx.take 6))) ≠ 0) (hn : n < 0):
    Calls Tryd.prog 12 #[.agg #[.bool sx, .slice Ax xsx.length cx, .int .i64 ex], .int .i64 n] w fun e w' => e = .returned (.bool true) ∧ Below w.heap.size w w' := by
  obtain ⟨mx, hmx⟩ : ∃ m, nm (sg sx (val (xsx.take 6))) = m := ⟨_, rfl⟩
  obtain ⟨yx, hyx⟩ : ∃ m, nx (sg sx (val (xsx.take 6))) (tameE ex) = m := ⟨_, rfl⟩
  have tx : Tm mx yx := hmx ▸ hyx ▸ tame_tm hx.2.1
  have bx := tx.bd
  have HMx := Lib.hid hmx
  have HYx := Lib.hid hyx
  have LXx := Lib.hid lx
  have E0x := Lib.hid ex0
  have E1x := Lib.hid ex1
  have Rx := Lib.hid tx.rt
  have Ix := Lib.hid tx.inR
  have Dx := Lib.hid (inr_len tx.inR)
  rw [hmx] at m0
  obtain ⟨r, hr⟩ : ∃ r, (-(n + 1)).tmod 601 = r := ⟨_, rfl⟩
  have hr2 := Int.tmod_eq_emod_of_nonneg (b := 601) (show 0 ≤ -(n + 1) by omega)
  rw [hr] at hr2
  have r0 : 0 ≤ r := by omega
  have r9 : r ≤ 600 := by omega
  clear hr2
  have hodd : mx % 2 = 1 := by rcases tx.1 with h | h; exact absurd h.1 m0; exact h
  obtain ⟨Et, hEt⟩ : ∃ e, yx + (r - 300) = e := ⟨_, rfl⟩
  have i2 : IsD (dv mx (yx + (r - 300))) mx Et := ⟨.inr hodd, by rw [hEt]⟩
  have b2 := bx.scale i2
  obtain ⟨k, hk⟩ : ∃ k : Int, yx + bl mx = k := ⟨_, rfl⟩
  have hkb : -300 ≤ k ∧ k ≤ 492 := by have := bx.2.resolve_left m0; have := bl_pos m0; omega
  have K0 := Lib.hid hkb.1
  have K9 := Lib.hid hkb.2
  have i3 : IsD (dv mx (Et + -(r - 300))) mx yx := ⟨tx.1, by congr 1; omega⟩
  have S1 := Lib.hid hk
  have S2 := Lib.hid (show Et + bl mx = k + (r - 300) by omega)
  have HS := Lib.hid i2
  have HB := Lib.hid i3
  have M0 := Lib.hid m0
  obtain ⟨nx_, hnx⟩ : ∃ z, -mx = z := ⟨_, rfl⟩
  have NX := Lib.hid (fun A c W (h : Dg W A c (digs mx.natAbs)) => neg_yes A c mx yx W h (Nat.le_trans Dx.out (by omega)) Rx.out)
  have Rn := Lib.hid (rt_neg Rx.out)
  rw [hnx] at NX Rn
  have Dn := Lib.hid (show (digs nx_.natAbs).length ≤ 10000 by rw [← hnx, Int.natAbs_neg]; exact Dx.out)
  have S3 := Lib.hid (show yx + bl nx_ = k by rw [← hk, ← hnx]; unfold bl; rw [Int.natAbs_neg])
  have M1 := Lib.hid (show nx_ ≠ 0 by omega)
  have RA := Lib.hid (show Rt (mx.natAbs : Int) yx from ⟨.inr (by omega), Rx.out.2⟩)
  obtain ⟨u, hu⟩ : ∃ u : Int, u = 1 := ⟨_, rfl⟩
  have HU := Lib.hid hu
  have RU := Lib.hid (show Rt u (k - 1) from ⟨.inr (by omega), by omega, by omega⟩)
  have RV := Lib.hid (show Rt u k from ⟨.inr (by omega), by omega, by omega⟩)
  have DU := Lib.hid (show (digs u.natAbs).length ≤ 400000 from Nat.le_trans (digs_small (by omega)) (by omega))
  have hsz := sz_dv (e := yx) m0
  unfold Sz at hsz
  rw [abs_dv, hk] at hsz
  obtain ⟨j1, hj1⟩ : ∃ c, cmpd (dv u (k - 1)) (dv (mx.natAbs : Int) yx) = c := ⟨_, rfl⟩
  obtain ⟨j2, hj2⟩ : ∃ c, cmpd (dv (mx.natAbs : Int) yx) (dv u k) = c := ⟨_, rfl⟩
  have C1 := Lib.hid hj1
  have C2 := Lib.hid hj2
  have E1 := Lib.hid (show decide (j1 ≤ 0) = true by rw [decide_eq_true_eq, ← hj1]; refine cmpd_le.2 ?_; rw [hu, dv_one]; exact hsz.1)
  have E2 := Lib.hid (show decide (j2 < 0) = true by rw [decide_eq_true_eq, ← hj2]; refine cmpd_lt'.2 ?_; rw [hu, dv_one]; exact hsz.2)
  have Rs := Lib.hid (Bd.rt b2 (by omega) (by omega))
  have Is := Lib.hid (Bd.inR b2 (by omega) (by omega))
  have Ds := Lib.hid (inr_len Is.out)
  have D0 := Lib.hid (show decide (n < 0) = true by simp; omega)
  have HR0 := Lib.hid hr
  have R0 := Lib.hid r0
  have R9 := Lib.hid r9
  have N0 := Lib.hid n0
  have N1 := Lib.hid n1
  have NN := Lib.hid hn
  have HT := Lib.hid hT
  clear hT
  have L0 := Lib.hid ((live_start w).add hx)
  clear hx lx ex0 ex1 hmx hyx tx bx m0 n0 n1 hn hr r0 r9 hodd hEt i2 b2 hk hkb i3 hnx hu hsz hj1 hj2
  go_enter Tryd.func12, Tryd.ntmps12
  go_wp2_with fail
  obtain ⟨v1, hW⟩ : ∃ W : World, W = (w.alloc (.cells #[.bool sx, .slice Ax xsx.length cx, .int .i64 ex] 26)) := ⟨_, rfl⟩
  rw [← hW]
  have hb : Below w.heap.size w v1 := by rw [hW]; exact ((Below.refl _ _).alloc (by simp <;> omega) _)
  have L1 := Lib.hid (L0.out.step hb)
  have Rx_1 := Lib.hid (show v1.heap[w.heap.size]? = some (.cells #[.bool sx, .slice Ax xsx.length cx, .int .i64 ex] 26 (0, 0)) by rw [hW]; have := heap_alloc_new w (.cells #[.bool sx, .slice Ax xsx.length cx, .int .i64 ex] 26); simpa using this)
  have Gx : w.heap.size ≤ w.heap.size := by have := L0.out.1.size; omega
  clear hW hb
  refine (dexamples_any _ (t32_live HT.out L1.out)).mono ?_
  rintro e w2 ⟨rfl, hb⟩
  have L2 := Lib.hid (L1.out.step hb)
  have Rx_2 := Lib.hid (cells_of Rx_1.out hb)
  clear hb 
  have fx0 := row_c (i := 0) Rx_2.out rfl
  have zx0 := frozen_of_row _ _ 0 _ _ Rx_2.out
  have fx1 := row_c (i := 1) Rx_2.out rfl
  have zx1 := frozen_of_row _ _ 1 _ _ Rx_2.out
  have fx2 := row_c (i := 2) Rx_2.out rfl
  have zx2 := frozen_of_row _ _ 2 _ _ Rx_2.out
  have xx := heap_lt Rx_2.out
  go_wp2_with fail
  refine (tame_any (M := mx) (E := yx) (L2.out.get (A := Ax) (c := cx) (xs := xsx) (by simp)) (t32_live HT.out L2.out) LXx.out E0x.out E1x.out HMx.out HYx.out).mono ?_
  rintro e w3 ⟨A3, c3, rfl, hd, hb⟩
  have L3 := Lib.hid ((L2.out.step hb).add hd)
  clear fx0 zx0 fx1 zx1 fx2 zx2 xx
  have Rx_3 := Lib.hid (cells_of Rx_2.out hb)
  clear hb hd
  have d1 := D0.out
  have hr := HR0.out
  have r0 := R0.out
  have r9 := R9.out
  have n0 := N0.out
  have n1 := N1.out
  have hn := NN.out
  go_wp2_with fail
  obtain ⟨w4, hW⟩ : ∃ W : World, W = (w3.alloc (.cells #[.bool (decide (mx < 0)), .slice A3 (digs mx.natAbs).length c3, .int .i64 yx] 26)) := ⟨_, rfl⟩
  rw [← hW]
  have hb : Below w3.heap.size w3 w4 := by rw [hW]; exact ((Below.refl _ _).alloc (by simp <;> omega) _)
  have L4 := Lib.hid (L3.out.step hb)
  have Rx_4 := Lib.hid (cells_of Rx_3.out hb)
  have Rtx_4 := Lib.hid (show w4.heap[w3.heap.size]? = some (.cells #[.bool (decide (mx < 0)), .slice A3 (digs mx.natAbs).length c3, .int .i64 yx] 26 (0, 0)) by rw [hW]; have := heap_alloc_new w3 (.cells #[.bool (decide (mx < 0)), .slice A3 (digs mx.natAbs).length c3, .int .i64 yx] 26); simpa using this)
  have Gtx : w.heap.size ≤ w3.heap.size := by have := L3.out.1.size; omega
  have Nxtx : w.heap.size < w3.heap.size := by have := heap_lt Rx_3.out; omega
  clear hW hb
  have ftx0 := row_c (i := 0) Rtx_4.out rfl
  have ztx0 := frozen_of_row _ _ 0 _ _ Rtx_4.out
  have ftx1 := row_c (i := 1) Rtx_4.out rfl
  have ztx1 := frozen_of_row _ _ 1 _ _ Rtx_4.out
  have ftx2 := row_c (i := 2) Rtx_4.out rfl
  have ztx2 := frozen_of_row _ _ 2 _ _ Rtx_4.out
  have xtx := heap_lt Rtx_4.out
  go_wp2_with fail
  clear ftx0 ztx0 ftx1 ztx1 ftx2 ztx2 xtx
  have ftx0 := row_c (i := 0) Rtx_4.out rfl
  have ztx0 := frozen_of_row _ _ 0 _ _ Rtx_4.out
  have ftx1 := row_c (i := 1) Rtx_4.out rfl
  have ztx1 := frozen_of_row _ _ 1 _ _ Rtx_4.out
  have ftx2 := row_c (i := 2) Rtx_4.out rfl
  have ztx2 := frozen_of_row _ _ 2 _ _ Rtx_4.out
  have xtx := heap_lt Rtx_4.out
  go_wp2_with fail
  refine (size_yes A3 c3 mx yx _ (L4.out.get (A := A3) (c := c3) (xs := digs mx.natAbs) (by simp)) Dx.out Rx.out M0.out (k := k) S1.out).mono ?_
  rintro e w5 ⟨rfl, hb⟩
  have L5 := Lib.hid (L4.out.step hb)
  clear ftx0 ztx0 ftx1 ztx1 ftx2 ztx2 xtx
  have Rx_5 := Lib.hid (cells_of Rx_4.out hb)
  have Rtx_5 := Lib.hid (cells_of Rtx_4.out hb)
  clear hb 
  clear d1 hr n0 n1 hn
  have ftx0 := row_c (i := 0) Rtx_5.out rfl
  have ztx0 := frozen_of_row _ _ 0 _ _ Rtx_5.out
  have ftx1 := row_c (i := 1) Rtx_5.out rfl
  have ztx1 := frozen_of_row _ _ 1 _ _ Rtx_5.out
  have ftx2 := row_c (i := 2) Rtx_5.out rfl
  have ztx2 := frozen_of_row _ _ 2 _ _ Rtx_5.out
  have xtx := heap_lt Rtx_5.out
  go_wp2_with fail
  refine (scale_yes_ _ _ mx yx (r - 300) mx Et _ (L5.out.get (A := A3) (c := c3) (xs := digs mx.natAbs) (by simp)) Dx.out Rx.out (t32_live HT.out L5.out) (by omega) (by omega) HS.out Is.out).mono ?_
  rintro e w6 ⟨A6, c6, rfl, hd, hb⟩
  have L6 := Lib.hid ((L5.out.step hb).add hd)
  clear ftx0 ztx0 ftx1 ztx1 ftx2 ztx2 xtx
  have Rx_6 := Lib.hid (cells_of Rx_5.out hb)
  have Rtx_6 := Lib.hid (cells_of Rtx_5.out hb)
  clear hb hd
  go_wp2_with fail
  obtain ⟨w7, hW⟩ : ∃ W : World, W = (w6.alloc (.cells #[.bool (decide (mx < 0)), .slice A6 (digs mx.natAbs).length c6, .int .i64 Et] 26)) := ⟨_, rfl⟩
  rw [← hW]
  have hb : Below w6.heap.size w6 w7 := by rw [hW]; exact ((Below.refl _ _).alloc (by simp <;> omega) _)
  have L7 := Lib.hid (L6.out.step hb)
  have Rx_7 := Lib.hid (cells_of Rx_6.out hb)
  have Rtx_7 := Lib.hid (cells_of Rtx_6.out hb)
  have Rbs_7 := Lib.hid (show w7.heap[w6.heap.size]? = some (.cells #[.bool (decide (mx < 0)), .slice A6 (digs mx.natAbs).length c6, .int .i64 Et] 26 (0, 0)) by rw [hW]; have := heap_alloc_new w6 (.cells #[.bool (decide (mx < 0)), .slice A6 (digs mx.natAbs).length c6, .int .i64 Et] 26); simpa using this)
  have Gbs : w.heap.size ≤ w6.heap.size := by have := L6.out.1.size; omega
  have Nxbs : w.heap.size < w6.heap.size := by have := heap_lt Rx_6.out; omega
  have Ntxbs : w3.heap.size < w6.heap.size := by have := heap_lt Rtx_6.out; omega
  clear hW hb
  refine (size_yes A6 c6 mx Et _ (L7.out.get (A := A6) (c := c6) (xs := digs mx.natAbs) (by simp)) Ds.out Rs.out M0.out (k := (k + (r - 300))) S2.out).mono ?_
  rintro e w8 ⟨rfl, hb⟩
  have L8 := Lib.hid (L7.out.step hb)
  have Rx_8 := Lib.hid (cells_of Rx_7.out hb)
  have Rtx_8 := Lib.hid (cells_of Rtx_7.out hb)
  have Rbs_8 := Lib.hid (cells_of Rbs_7.out hb)
  clear hb 
  have ftx0 := row_c (i := 0) Rtx_8.out rfl
  have ztx0 := frozen_of_row _ _ 0 _ _ Rtx_8.out
  have ftx1 := row_c (i := 1) Rtx_8.out rfl
  have ztx1 := frozen_of_row _ _ 1 _ _ Rtx_8.out
  have ftx2 := row_c (i := 2) Rtx_8.out rfl
  have ztx2 := frozen_of_row _ _ 2 _ _ Rtx_8.out
  have xtx := heap_lt Rtx_8.out
  go_wp2_with fail
  refine (NX.out A3 c3 _ (L8.out.get (A := A3) (c := c3) (xs := digs mx.natAbs) (by simp))).mono ?_
  rintro e w9 ⟨A9, c9, rfl, hd, hb⟩
  have L9 := Lib.hid ((L8.out.step hb).add hd)
  clear ftx0 ztx0 ftx1 ztx1 ftx2 ztx2 xtx
  have Rx_9 := Lib.hid (cells_of Rx_8.out hb)
  have Rtx_9 := Lib.hid (cells_of Rtx_8.out hb)
  have Rbs_9 := Lib.hid (cells_of Rbs_8.out hb)
  clear hb hd
  go_wp2_with fail
  refine (size_yes A9 c9 nx_ yx _ (L9.out.get (A := A9) (c := c9) (xs := digs nx_.natAbs) (by simp)) Dn.out Rn.out M1.out (k := k) S3.out).mono ?_
  rintro e w10 ⟨rfl, hb⟩
  have L10 := Lib.hid (L9.out.step hb)
  have Rx_10 := Lib.hid (cells_of Rx_9.out hb)
  have Rtx_10 := Lib.hid (cells_of Rtx_9.out hb)
  have Rbs_10 := Lib.hid (cells_of Rbs_9.out hb)
  clear hb 
  have ftx0 := row_c (i := 0) Rtx_10.out rfl
  have ztx0 := frozen_of_row _ _ 0 _ _ Rtx_10.out
  have ftx1 := row_c (i := 1) Rtx_10.out rfl
  have ztx1 := frozen_of_row _ _ 1 _ _ Rtx_10.out
  have ftx2 := row_c (i := 2) Rtx_10.out rfl
  have ztx2 := frozen_of_row _ _ 2 _ _ Rtx_10.out
  have xtx := heap_lt Rtx_10.out
  have fbs0 := row_c (i := 0) Rbs_10.out rfl
  have zbs0 := frozen_of_row _ _ 0 _ _ Rbs_10.out
  have fbs1 := row_c (i := 1) Rbs_10.out rfl
  have zbs1 := frozen_of_row _ _ 1 _ _ Rbs_10.out
  have fbs2 := row_c (i := 2) Rbs_10.out rfl
  have zbs2 := frozen_of_row _ _ 2 _ _ Rbs_10.out
  have xbs := heap_lt Rbs_10.out
  go_wp2_with fail
  obtain ⟨w11, hW⟩ : ∃ W : World, W = (w10.alloc (.cells #[.bool false, .slice A3 (digs mx.natAbs).length c3, .int .i64 yx] 26)) := ⟨_, rfl⟩
  rw [← hW]
  have hb : Below w10.heap.size w10 w11 := by rw [hW]; exact ((Below.refl _ _).alloc (by simp <;> omega) _)
  have L11 := Lib.hid (L10.out.step hb)
  have Rx_11 := Lib.hid (cells_of Rx_10.out hb)
  have Rtx_11 := Lib.hid (cells_of Rtx_10.out hb)
  have Rbs_11 := Lib.hid (cells_of Rbs_10.out hb)
  have Ra_11 := Lib.hid (show w11.heap[w10.heap.size]? = some (.cells #[.bool false, .slice A3 (digs mx.natAbs).length c3, .int .i64 yx] 26 (0, 0)) by rw [hW]; have := heap_alloc_new w10 (.cells #[.bool false, .slice A3 (digs mx.natAbs).length c3, .int .i64 yx] 26); simpa using this)
  have Ga : w.heap.size ≤ w10.heap.size := by have := L10.out.1.size; omega
  have Nxa : w.heap.size < w10.heap.size := by have := heap_lt Rx_10.out; omega
  have Ntxa : w3.heap.size < w10.heap.size := by have := heap_lt Rtx_10.out; omega
  have Nbsa : w6.heap.size < w10.heap.size := by have := heap_lt Rbs_10.out; omega
  clear hW hb
  clear ftx0 ztx0 ftx1 ztx1 ftx2 ztx2 xtx fbs0 zbs0 fbs1 zbs1 fbs2 zbs2 xbs
  refine (scale_yes_ _ _ mx Et (-(r - 300)) mx yx _ (L11.out.get (A := A6) (c := c6) (xs := digs mx.natAbs) (by simp)) Ds.out Rs.out (t32_live HT.out L11.out) (by omega) (by omega) HB.out Ix.out).mono ?_
  rintro e w12 ⟨A12, c12, rfl, hd, hb⟩
  have L12 := Lib.hid ((L11.out.step hb).add hd)
  have Rx_12 := Lib.hid (cells_of Rx_11.out hb)
  have Rtx_12 := Lib.hid (cells_of Rtx_11.out hb)
  have Rbs_12 := Lib.hid (cells_of Rbs_11.out hb)
  have Ra_12 := Lib.hid (cells_of Ra_11.out hb)
  clear hb hd
  have Db := Dx
  have Rb := Rx
  have ftx0 := row_c (i := 0) Rtx_12.out rfl
  have ztx0 := frozen_of_row _ _ 0 _ _ Rtx_12.out
  have ftx1 := row_c (i := 1) Rtx_12.out rfl
  have ztx1 := frozen_of_row _ _ 1 _ _ Rtx_12.out
  have ftx2 := row_c (i := 2) Rtx_12.out rfl
  have ztx2 := frozen_of_row _ _ 2 _ _ Rtx_12.out
  have xtx := heap_lt Rtx_12.out
  go_wp2_with fail
  obtain ⟨w13, hW⟩ : ∃ W : World, W = (w12.alloc (.cells #[.bool (decide (mx < 0)), .slice A12 (digs mx.natAbs).length c12, .int .i64 yx] 26)) := ⟨_, rfl⟩
  rw [← hW]
  have hb : Below w12.heap.size w12 w13 := by rw [hW]; exact ((Below.refl _ _).alloc (by simp <;> omega) _)
  have L13 := Lib.hid (L12.out.step hb)
  have Rx_13 := Lib.hid (cells_of Rx_12.out hb)
  have Rtx_13 := Lib.hid (cells_of Rtx_12.out hb)
  have Rbs_13 := Lib.hid (cells_of Rbs_12.out hb)
  have Ra_13 := Lib.hid (cells_of Ra_12.out hb)
  have Rbb_13 := Lib.hid (show w13.heap[w12.heap.size]? = some (.cells #[.bool (decide (mx < 0)), .slice A12 (digs mx.natAbs).length c12, .int .i64 yx] 26 (0, 0)) by rw [hW]; have := heap_alloc_new w12 (.cells #[.bool (decide (mx < 0)), .slice A12 (digs mx.natAbs).length c12, .int .i64 yx] 26); simpa using this)
  have Gbb : w.heap.size ≤ w12.heap.size := by have := L12.out.1.size; omega
  have Nxbb : w.heap.size < w12.heap.size := by have := heap_lt Rx_12.out; omega
  have Ntxbb : w3.heap.size < w12.heap.size := by have := heap_lt Rtx_12.out; omega
  have Nbsbb : w6.heap.size < w12.heap.size := by have := heap_lt Rbs_12.out; omega
  have Nabb : w10.heap.size < w12.heap.size := by have := heap_lt Ra_12.out; omega
  clear hW hb
  clear ftx0 ztx0 ftx1 ztx1 ftx2 ztx2 xtx
  refine (dsame_d (m := mx) (n := mx) (x := yx) (y := yx) (q := true) (L13.out.get (A := A12) (c := c12) (xs := digs mx.natAbs) (by simp)) (L13.out.get (A := A3) (c := c3) (xs := digs mx.natAbs) (by simp)) Db.out (by simp)).mono ?_
  rintro e w14 ⟨rfl, hb⟩
  have L14 := Lib.hid (L13.out.step hb)
  have Rx_14 := Lib.hid (cells_of Rx_13.out hb)
  have Rtx_14 := Lib.hid (cells_of Rtx_13.out hb)
  have Rbs_14 := Lib.hid (cells_of Rbs_13.out hb)
  have Ra_14 := Lib.hid (cells_of Ra_13.out hb)
  have Rbb_14 := Lib.hid (cells_of Rbb_13.out hb)
  clear hb 
  have e1 := E1.out
  have e2 := E2.out
  have k0 := K0.out
  have k9 := K9.out
  have kk : (k == k) = true := by simp
  have kr : (k + (r - 300) == k + (r - 300)) = true := by simp
  have hw1 : IntKind.i64.wrap (k + (r - 300)) = k + (r - 300) := by rw [IntWalk.i64_in _ (by omega)]
  have hw2 : IntKind.i64.wrap (k - 1) = k - 1 := by rw [IntWalk.i64_in _ (by omega)]
  have fa0 := row_c (i := 0) Ra_14.out rfl
  have za0 := frozen_of_row _ _ 0 _ _ Ra_14.out
  have fa1 := row_c (i := 1) Ra_14.out rfl
  have za1 := frozen_of_row _ _ 1 _ _ Ra_14.out
  have fa2 := row_c (i := 2) Ra_14.out rfl
  have za2 := frozen_of_row _ _ 2 _ _ Ra_14.out
  have xa := heap_lt Ra_14.out
  clear fa0 za0 fa1 za1 fa2 za2 xa
  go_wp2_with fail
  have fa0 := row_c (i := 0) Ra_14.out rfl
  have za0 := frozen_of_row _ _ 0 _ _ Ra_14.out
  have fa1 := row_c (i := 1) Ra_14.out rfl
  have za1 := frozen_of_row _ _ 1 _ _ Ra_14.out
  have fa2 := row_c (i := 2) Ra_14.out rfl
  have za2 := frozen_of_row _ _ 2 _ _ Ra_14.out
  have xa := heap_lt Ra_14.out
  have KD := Lib.hid (bd0 w14)
  have LD := Lib.hid (L14.out.step KD.out)
  go_region_held3 (fun w' => ∀ b o, b < w14.heap.size → w'.cell? ⟨b, o, none⟩ = w14.cell? ⟨b, o, none⟩)
    (first | with_reducible exact (bcell KD.out).1 | with_reducible exact (bcell K16.out).1 | with_reducible exact (bcell K17.out).1 | with_reducible exact (bcell K18.out).1 | with_reducible exact (bcell K19.out).1)
    (first
      | (go_at_call 22; (with_reducible refine (half_u (k - 1) u _ (t32_live HT.out LD.out) (by omega) (by omega) HU.out).mono ?_); rintro e w16 ⟨A16, c16, rfl, hd, hb⟩; (have K16 := Lib.hid (KD.out.trans (hb.mono KD.out.size))); (have L16 := Lib.hid ((LD.out.step hb).add hd)); clear hb hd)
      | (go_at_call_of 28 A16; (with_reducible refine (dcmp_r (m := u) (n := mx) (x := k - 1) (y := yx) (q := j1) (L16.out.get (A := A16) (c := c16) (xs := digs u.natAbs) (by simp)) (L16.out.get (A := A3) (c := c3) (xs := digs mx.natAbs) (by simp)) DU.out (Nat.le_trans Dx.out (by omega)) RU.out RA.out C1.out).mono ?_); rintro e w17 ⟨rfl, hb⟩; (have K17 := Lib.hid (K16.out.trans (hb.mono K16.out.size))); (have L17 := Lib.hid (L16.out.step hb)); clear hb )
      | (go_at_call 22; (with_reducible refine (half_u k u _ (t32_live HT.out L17.out) (by omega) (by omega) HU.out).mono ?_); rintro e w18 ⟨A18, c18, rfl, hd, hb⟩; (have K18 := Lib.hid (K17.out.trans (hb.mono K17.out.size))); (have L18 := Lib.hid ((L17.out.step hb).add hd)); clear hb hd)
      | (go_at_call_of 28 A18; (with_reducible refine (dcmp_l (m := mx) (n := u) (x := yx) (y := k) (q := j2) (L18.out.get (A := A3) (c := c3) (xs := digs mx.natAbs) (by simp)) (L18.out.get (A := A18) (c := c18) (xs := digs u.natAbs) (by simp)) (Nat.le_trans Dx.out (by omega)) DU.out RA.out RV.out C2.out).mono ?_); rintro e w19 ⟨rfl, hb⟩; (have K19 := Lib.hid (K18.out.trans (hb.mono K18.out.size))); (have L19 := Lib.hid (L18.out.step hb)); clear hb ))
  rename_i hHeld
  clear hHeld
  clear fa0 za0 fa1 za1 fa2 za2 xa
  have Rx_19 := Lib.hid (cells_of Rx_14.out K19.out)
  have Rtx_19 := Lib.hid (cells_of Rtx_14.out K19.out)
  have Rbs_19 := Lib.hid (cells_of Rbs_14.out K19.out)
  have Ra_19 := Lib.hid (cells_of Ra_14.out K19.out)
  have Rbb_19 := Lib.hid (cells_of Rbb_14.out K19.out)
  clear KD LD
  go_wp2
  go_ret
  exact ⟨rfl, L19.out.1⟩

set_option maxHeartbeats 8000000 in
set_option maxRecDepth 100000 in
theorem dyadSizes_yp  (Ax : Option Addr) (cx : Nat) (sx : Bool) (xsx : List Nat) (ex : Int) (n : Int) (w : World)  (hx : Dg w Ax cx xsx) (lx : xsx.length ≤ 9223372036854775807) (ex0 : -9223372036854775808 ≤ ex) (ex1 : ex ≤ 9223372036854775807) (n0 : -9223372036854775808 ≤ n) (n1 : n ≤ 9223372036854775807) (hT : T32 w) (m0 : nm (sg sx (val (xsx.take 6))) ≠ 0) (hn : 0 ≤ n):
    Calls Tryd.prog 12 #[.agg #[.bool sx, .slice Ax xsx.length cx, .int .i64 ex], .int .i64 n] w fun e w' => e = .returned (.bool true) ∧ Below w.heap.size w w' := by
  obtain ⟨mx, hmx⟩ : ∃ m, nm (sg sx (val (xsx.take 6))) = m := ⟨_, rfl⟩
  obtain ⟨yx, hyx⟩ : ∃ m, nx (sg sx (val (xsx.take 6))) (tameE ex) = m := ⟨_, rfl⟩
  have tx : Tm mx yx := hmx ▸ hyx ▸ tame_tm hx.2.1
  have bx := tx.bd
  have HMx := Lib.hid hmx
  have HYx := Lib.hid hyx
  have LXx := Lib.hid lx
  have E0x := Lib.hid ex0
  have E1x := Lib.hid ex1
  have Rx := Lib.hid tx.rt
  have Ix := Lib.hid tx.inR
  have Dx := Lib.hid (inr_len tx.inR)
  rw [hmx] at m0
  obtain ⟨r, hr⟩ : ∃ r, (n).tmod 601 = r := ⟨_, rfl⟩
  have hr2 := Int.tmod_eq_emod_of_nonneg (b := 601) (show 0 ≤ n by omega)
  rw [hr] at hr2
  have r0 : 0 ≤ r := by omega
  have r9 : r ≤ 600 := by omega
  clear hr2
  have hodd : mx % 2 = 1 := by rcases tx.1 with h | h; exact absurd h.1 m0; exact h
  obtain ⟨Et, hEt⟩ : ∃ e, yx + (r - 300) = e := ⟨_, rfl⟩
  have i2 : IsD (dv mx (yx + (r - 300))) mx Et := ⟨.inr hodd, by rw [hEt]⟩
  have b2 := bx.scale i2
  obtain ⟨k, hk⟩ : ∃ k : Int, yx + bl mx = k := ⟨_, rfl⟩
  have hkb : -300 ≤ k ∧ k ≤ 492 := by have := bx.2.resolve_left m0; have := bl_pos m0; omega
  have K0 := Lib.hid hkb.1
  have K9 := Lib.hid hkb.2
  have i3 : IsD (dv mx (Et + -(r - 300))) mx yx := ⟨tx.1, by congr 1; omega⟩
  have S1 := Lib.hid hk
  have S2 := Lib.hid (show Et + bl mx = k + (r - 300) by omega)
  have HS := Lib.hid i2
  have HB := Lib.hid i3
  have M0 := Lib.hid m0
  obtain ⟨nx_, hnx⟩ : ∃ z, -mx = z := ⟨_, rfl⟩
  have NX := Lib.hid (fun A c W (h : Dg W A c (digs mx.natAbs)) => neg_yes A c mx yx W h (Nat.le_trans Dx.out (by omega)) Rx.out)
  have Rn := Lib.hid (rt_neg Rx.out)
  rw [hnx] at NX Rn
  have Dn := Lib.hid (show (digs nx_.natAbs).length ≤ 10000 by rw [← hnx, Int.natAbs_neg]; exact Dx.out)
  have S3 := Lib.hid (show yx + bl nx_ = k by rw [← hk, ← hnx]; unfold bl; rw [Int.natAbs_neg])
  have M1 := Lib.hid (show nx_ ≠ 0 by omega)
  have RA := Lib.hid (show Rt (mx.natAbs : Int) yx from ⟨.inr (by omega), Rx.out.2⟩)
  obtain ⟨u, hu⟩ : ∃ u : Int, u = 1 := ⟨_, rfl⟩
  have HU := Lib.hid hu
  have RU := Lib.hid (show Rt u (k - 1) from ⟨.inr (by omega), by omega, by omega⟩)
  have RV := Lib.hid (show Rt u k from ⟨.inr (by omega), by omega, by omega⟩)
  have DU := Lib.hid (show (digs u.natAbs).length ≤ 400000 from Nat.le_trans (digs_small (by omega)) (by omega))
  have hsz := sz_dv (e := yx) m0
  unfold Sz at hsz
  rw [abs_dv, hk] at hsz
  obtain ⟨j1, hj1⟩ : ∃ c, cmpd (dv u (k - 1)) (dv (mx.natAbs : Int) yx) = c := ⟨_, rfl⟩
  obtain ⟨j2, hj2⟩ : ∃ c, cmpd (dv (mx.natAbs : Int) yx) (dv u k) = c := ⟨_, rfl⟩
  have C1 := Lib.hid hj1
  have C2 := Lib.hid hj2
  have E1 := Lib.hid (show decide (j1 ≤ 0) = true by rw [decide_eq_true_eq, ← hj1]; refine cmpd_le.2 ?_; rw [hu, dv_one]; exact hsz.1)
  have E2 := Lib.hid (show decide (j2 < 0) = true by rw [decide_eq_true_eq, ← hj2]; refine cmpd_lt'.2 ?_; rw [hu, dv_one]; exact hsz.2)
  have Rs := Lib.hid (Bd.rt b2 (by omega) (by omega))
  have Is := Lib.hid (Bd.inR b2 (by omega) (by omega))
  have Ds := Lib.hid (inr_len Is.out)
  have D0 := Lib.hid (show decide (n < 0) = false by simp; omega)
  have HR0 := Lib.hid hr
  have R0 := Lib.hid r0
  have R9 := Lib.hid r9
  have N0 := Lib.hid n0
  have N1 := Lib.hid n1
  have NN := Lib.hid hn
  have HT := Lib.hid hT
  clear hT
  have L0 := Lib.hid ((live_start w).add hx)
  clear hx lx ex0 ex1 hmx hyx tx bx m0 n0 n1 hn hr r0 r9 hodd hEt i2 b2 hk hkb i3 hnx hu hsz hj1 hj2
  go_enter Tryd.func12, Tryd.ntmps12
  go_wp2_with fail
  obtain ⟨v1, hW⟩ : ∃ W : World, W = (w.alloc (.cells #[.bool sx, .slice Ax xsx.length cx, .int .i64 ex] 26)) := ⟨_, rfl⟩
  rw [← hW]
  have hb : Below w.heap.size w v1 := by rw [hW]; exact ((Below.refl _ _).alloc (by simp <;> omega) _)
  have L1 := Lib.hid (L0.out.step hb)
  have Rx_1 := Lib.hid (show v1.heap[w.heap.size]? = some (.cells #[.bool sx, .slice Ax xsx.length cx, .int .i64 ex] 26 (0, 0)) by rw [hW]; have := heap_alloc_new w (.cells #[.bool sx, .slice Ax xsx.length cx, .int .i64 ex] 26); simpa using this)
  have Gx : w.heap.size ≤ w.heap.size := by have := L0.out.1.size; omega
  clear hW hb
  refine (dexamples_any _ (t32_live HT.out L1.out)).mono ?_
  rintro e w2 ⟨rfl, hb⟩
  have L2 := Lib.hid (L1.out.step hb)
  have Rx_2 := Lib.hid (cells_of Rx_1.out hb)
  clear hb 
  have fx0 := row_c (i := 0) Rx_2.out rfl
  have zx0 := frozen_of_row _ _ 0 _ _ Rx_2.out
  have fx1 := row_c (i := 1) Rx_2.out rfl
  have zx1 := frozen_of_row _ _ 1 _ _ Rx_2.out
  have fx2 := row_c (i := 2) Rx_2.out rfl
  have zx2 := frozen_of_row _ _ 2 _ _ Rx_2.out
  have xx := heap_lt Rx_2.out
  go_wp2_with fail
  refine (tame_any (M := mx) (E := yx) (L2.out.get (A := Ax) (c := cx) (xs := xsx) (by simp)) (t32_live HT.out L2.out) LXx.out E0x.out E1x.out HMx.out HYx.out).mono ?_
  rintro e w3 ⟨A3, c3, rfl, hd, hb⟩
  have L3 := Lib.hid ((L2.out.step hb).add hd)
  clear fx0 zx0 fx1 zx1 fx2 zx2 xx
  have Rx_3 := Lib.hid (cells_of Rx_2.out hb)
  clear hb hd
  have d1 := D0.out
  have hr := HR0.out
  have r0 := R0.out
  have r9 := R9.out
  have n0 := N0.out
  have n1 := N1.out
  have hn := NN.out
  go_wp2_with fail
  obtain ⟨w4, hW⟩ : ∃ W : World, W = (w3.alloc (.cells #[.bool (decide (mx < 0)), .slice A3 (digs mx.natAbs).length c3, .int .i64 yx] 26)) := ⟨_, rfl⟩
  rw [← hW]
  have hb : Below w3.heap.size w3 w4 := by rw [hW]; exact ((Below.refl _ _).alloc (by simp <;> omega) _)
  have L4 := Lib.hid (L3.out.step hb)
  have Rx_4 := Lib.hid (cells_of Rx_3.out hb)
  have Rtx_4 := Lib.hid (show w4.heap[w3.heap.size]? = some (.cells #[.bool (decide (mx < 0)), .slice A3 (digs mx.natAbs).length c3, .int .i64 yx] 26 (0, 0)) by rw [hW]; have := heap_alloc_new w3 (.cells #[.bool (decide (mx < 0)), .slice A3 (digs mx.natAbs).length c3, .int .i64 yx] 26); simpa using this)
  have Gtx : w.heap.size ≤ w3.heap.size := by have := L3.out.1.size; omega
  have Nxtx : w.heap.size < w3.heap.size := by have := heap_lt Rx_3.out; omega
  clear hW hb
  have ftx0 := row_c (i := 0) Rtx_4.out rfl
  have ztx0 := frozen_of_row _ _ 0 _ _ Rtx_4.out
  have ftx1 := row_c (i := 1) Rtx_4.out rfl
  have ztx1 := frozen_of_row _ _ 1 _ _ Rtx_4.out
  have ftx2 := row_c (i := 2) Rtx_4.out rfl
  have ztx2 := frozen_of_row _ _ 2 _ _ Rtx_4.out
  have xtx := heap_lt Rtx_4.out
  go_wp2_with fail
  clear ftx0 ztx0 ftx1 ztx1 ftx2 ztx2 xtx
  have ftx0 := row_c (i := 0) Rtx_4.out rfl
  have ztx0 := frozen_of_row _ _ 0 _ _ Rtx_4.out
  have ftx1 := row_c (i := 1) Rtx_4.out rfl
  have ztx1 := frozen_of_row _ _ 1 _ _ Rtx_4.out
  have ftx2 := row_c (i := 2) Rtx_4.out rfl
  have ztx2 := frozen_of_row _ _ 2 _ _ Rtx_4.out
  have xtx := heap_lt Rtx_4.out
  go_wp2_with fail
  refine (size_yes A3 c3 mx yx _ (L4.out.get (A := A3) (c := c3) (xs := digs mx.natAbs) (by simp)) Dx.out Rx.out M0.out (k := k) S1.out).mono ?_
  rintro e w5 ⟨rfl, hb⟩
  have L5 := Lib.hid (L4.out.step hb)
  clear ftx0 ztx0 ftx1 ztx1 ftx2 ztx2 xtx
  have Rx_5 := Lib.hid (cells_of Rx_4.out hb)
  have Rtx_5 := Lib.hid (cells_of Rtx_4.out hb)
  clear hb 
  clear d1 hr n0 n1 hn
  have ftx0 := row_c (i := 0) Rtx_5.out rfl
  have ztx0 := frozen_of_row _ _ 0 _ _ Rtx_5.out
  have ftx1 := row_c (i := 1) Rtx_5.out rfl
  have ztx1 := frozen_of_row _ _ 1 _ _ Rtx_5.out
  have ftx2 := row_c (i := 2) Rtx_5.out rfl
  have ztx2 := frozen_of_row _ _ 2 _ _ Rtx_5.out
  have xtx := heap_lt Rtx_5.out
  go_wp2_with fail
  refine (scale_yes_ _ _ mx yx (r - 300) mx Et _ (L5.out.get (A := A3) (c := c3) (xs := digs mx.natAbs) (by simp)) Dx.out Rx.out (t32_live HT.out L5.out) (by omega) (by omega) HS.out Is.out).mono ?_
  rintro e w6 ⟨A6, c6, rfl, hd, hb⟩
  have L6 := Lib.hid ((L5.out.step hb).add hd)
  clear ftx0 ztx0 ftx1 ztx1 ftx2 ztx2 xtx
  have Rx_6 := Lib.hid (cells_of Rx_5.out hb)
  have Rtx_6 := Lib.hid (cells_of Rtx_5.out hb)
  clear hb hd
  go_wp2_with fail
  obtain ⟨w7, hW⟩ : ∃ W : World, W = (w6.alloc (.cells #[.bool (decide (mx < 0)), .slice A6 (digs mx.natAbs).length c6, .int .i64 Et] 26)) := ⟨_, rfl⟩
  rw [← hW]
  have hb : Below w6.heap.size w6 w7 := by rw [hW]; exact ((Below.refl _ _).alloc (by simp <;> omega) _)
  have L7 := Lib.hid (L6.out.step hb)
  have Rx_7 := Lib.hid (cells_of Rx_6.out hb)
  have Rtx_7 := Lib.hid (cells_of Rtx_6.out hb)
  have Rbs_7 := Lib.hid (show w7.heap[w6.heap.size]? = some (.cells #[.bool (decide (mx < 0)), .slice A6 (digs mx.natAbs).length c6, .int .i64 Et] 26 (0, 0)) by rw [hW]; have := heap_alloc_new w6 (.cells #[.bool (decide (mx < 0)), .slice A6 (digs mx.natAbs).length c6, .int .i64 Et] 26); simpa using this)
  have Gbs : w.heap.size ≤ w6.heap.size := by have := L6.out.1.size; omega
  have Nxbs : w.heap.size < w6.heap.size := by have := heap_lt Rx_6.out; omega
  have Ntxbs : w3.heap.size < w6.heap.size := by have := heap_lt Rtx_6.out; omega
  clear hW hb
  refine (size_yes A6 c6 mx Et _ (L7.out.get (A := A6) (c := c6) (xs := digs mx.natAbs) (by simp)) Ds.out Rs.out M0.out (k := (k + (r - 300))) S2.out).mono ?_
  rintro e w8 ⟨rfl, hb⟩
  have L8 := Lib.hid (L7.out.step hb)
  have Rx_8 := Lib.hid (cells_of Rx_7.out hb)
  have Rtx_8 := Lib.hid (cells_of Rtx_7.out hb)
  have Rbs_8 := Lib.hid (cells_of Rbs_7.out hb)
  clear hb 
  have ftx0 := row_c (i := 0) Rtx_8.out rfl
  have ztx0 := frozen_of_row _ _ 0 _ _ Rtx_8.out
  have ftx1 := row_c (i := 1) Rtx_8.out rfl
  have ztx1 := frozen_of_row _ _ 1 _ _ Rtx_8.out
  have ftx2 := row_c (i := 2) Rtx_8.out rfl
  have ztx2 := frozen_of_row _ _ 2 _ _ Rtx_8.out
  have xtx := heap_lt Rtx_8.out
  go_wp2_with fail
  refine (NX.out A3 c3 _ (L8.out.get (A := A3) (c := c3) (xs := digs mx.natAbs) (by simp))).mono ?_
  rintro e w9 ⟨A9, c9, rfl, hd, hb⟩
  have L9 := Lib.hid ((L8.out.step hb).add hd)
  clear ftx0 ztx0 ftx1 ztx1 ftx2 ztx2 xtx
  have Rx_9 := Lib.hid (cells_of Rx_8.out hb)
  have Rtx_9 := Lib.hid (cells_of Rtx_8.out hb)
  have Rbs_9 := Lib.hid (cells_of Rbs_8.out hb)
  clear hb hd
  go_wp2_with fail
  refine (size_yes A9 c9 nx_ yx _ (L9.out.get (A := A9) (c := c9) (xs := digs nx_.natAbs) (by simp)) Dn.out Rn.out M1.out (k := k) S3.out).mono ?_
  rintro e w10 ⟨rfl, hb⟩
  have L10 := Lib.hid (L9.out.step hb)
  have Rx_10 := Lib.hid (cells_of Rx_9.out hb)
  have Rtx_10 := Lib.hid (cells_of Rtx_9.out hb)
  have Rbs_10 := Lib.hid (cells_of Rbs_9.out hb)
  clear hb 
  have ftx0 := row_c (i := 0) Rtx_10.out rfl
  have ztx0 := frozen_of_row _ _ 0 _ _ Rtx_10.out
  have ftx1 := row_c (i := 1) Rtx_10.out rfl
  have ztx1 := frozen_of_row _ _ 1 _ _ Rtx_10.out
  have ftx2 := row_c (i := 2) Rtx_10.out rfl
  have ztx2 := frozen_of_row _ _ 2 _ _ Rtx_10.out
  have xtx := heap_lt Rtx_10.out
  have fbs0 := row_c (i := 0) Rbs_10.out rfl
  have zbs0 := frozen_of_row _ _ 0 _ _ Rbs_10.out
  have fbs1 := row_c (i := 1) Rbs_10.out rfl
  have zbs1 := frozen_of_row _ _ 1 _ _ Rbs_10.out
  have fbs2 := row_c (i := 2) Rbs_10.out rfl
  have zbs2 := frozen_of_row _ _ 2 _ _ Rbs_10.out
  have xbs := heap_lt Rbs_10.out
  go_wp2_with fail
  obtain ⟨w11, hW⟩ : ∃ W : World, W = (w10.alloc (.cells #[.bool false, .slice A3 (digs mx.natAbs).length c3, .int .i64 yx] 26)) := ⟨_, rfl⟩
  rw [← hW]
  have hb : Below w10.heap.size w10 w11 := by rw [hW]; exact ((Below.refl _ _).alloc (by simp <;> omega) _)
  have L11 := Lib.hid (L10.out.step hb)
  have Rx_11 := Lib.hid (cells_of Rx_10.out hb)
  have Rtx_11 := Lib.hid (cells_of Rtx_10.out hb)
  have Rbs_11 := Lib.hid (cells_of Rbs_10.out hb)
  have Ra_11 := Lib.hid (show w11.heap[w10.heap.size]? = some (.cells #[.bool false, .slice A3 (digs mx.natAbs).length c3, .int .i64 yx] 26 (0, 0)) by rw [hW]; have := heap_alloc_new w10 (.cells #[.bool false, .slice A3 (digs mx.natAbs).length c3, .int .i64 yx] 26); simpa using this)
  have Ga : w.heap.size ≤ w10.heap.size := by have := L10.out.1.size; omega
  have Nxa : w.heap.size < w10.heap.size := by have := heap_lt Rx_10.out; omega
  have Ntxa : w3.heap.size < w10.heap.size := by have := heap_lt Rtx_10.out; omega
  have Nbsa : w6.heap.size < w10.heap.size := by have := heap_lt Rbs_10.out; omega
  clear hW hb
  clear ftx0 ztx0 ftx1 ztx1 ftx2 ztx2 xtx fbs0 zbs0 fbs1 zbs1 fbs2 zbs2 xbs
  refine (scale_yes_ _ _ mx Et (-(r - 300)) mx yx _ (L11.out.get (A := A6) (c := c6) (xs := digs mx.natAbs) (by simp)) Ds.out Rs.out (t32_live HT.out L11.out) (by omega) (by omega) HB.out Ix.out).mono ?_
  rintro e w12 ⟨A12, c12, rfl, hd, hb⟩
  have L12 := Lib.hid ((L11.out.step hb).add hd)
  have Rx_12 := Lib.hid (cells_of Rx_11.out hb)
  have Rtx_12 := Lib.hid (cells_of Rtx_11.out hb)
  have Rbs_12 := Lib.hid (cells_of Rbs_11.out hb)
  have Ra_12 := Lib.hid (cells_of Ra_11.out hb)
  clear hb hd
  have Db := Dx
  have Rb := Rx
  have ftx0 := row_c (i := 0) Rtx_12.out rfl
  have ztx0 := frozen_of_row _ _ 0 _ _ Rtx_12.out
  have ftx1 := row_c (i := 1) Rtx_12.out rfl
  have ztx1 := frozen_of_row _ _ 1 _ _ Rtx_12.out
  have ftx2 := row_c (i := 2) Rtx_12.out rfl
  have ztx2 := frozen_of_row _ _ 2 _ _ Rtx_12.out
  have xtx := heap_lt Rtx_12.out
  go_wp2_with fail
  obtain ⟨w13, hW⟩ : ∃ W : World, W = (w12.alloc (.cells #[.bool (decide (mx < 0)), .slice A12 (digs mx.natAbs).length c12, .int .i64 yx] 26)) := ⟨_, rfl⟩
  rw [← hW]
  have hb : Below w12.heap.size w12 w13 := by rw [hW]; exact ((Below.refl _ _).alloc (by simp <;> omega) _)
  have L13 := Lib.hid (L12.out.step hb)
  have Rx_13 := Lib.hid (cells_of Rx_12.out hb)
  have Rtx_13 := Lib.hid (cells_of Rtx_12.out hb)
  have Rbs_13 := Lib.hid (cells_of Rbs_12.out hb)
  have Ra_13 := Lib.hid (cells_of Ra_12.out hb)
  have Rbb_13 := Lib.hid (show w13.heap[w12.heap.size]? = some (.cells #[.bool (decide (mx < 0)), .slice A12 (digs mx.natAbs).length c12, .int .i64 yx] 26 (0, 0)) by rw [hW]; have := heap_alloc_new w12 (.cells #[.bool (decide (mx < 0)), .slice A12 (digs mx.natAbs).length c12, .int .i64 yx] 26); simpa using this)
  have Gbb : w.heap.size ≤ w12.heap.size := by have := L12.out.1.size; omega
  have Nxbb : w.heap.size < w12.heap.size := by have := heap_lt Rx_12.out; omega
  have Ntxbb : w3.heap.size < w12.heap.size := by have := heap_lt Rtx_12.out; omega
  have Nbsbb : w6.heap.size < w12.heap.size := by have := heap_lt Rbs_12.out; omega
  have Nabb : w10.heap.size < w12.heap.size := by have := heap_lt Ra_12.out; omega
  clear hW hb
  clear ftx0 ztx0 ftx1 ztx1 ftx2 ztx2 xtx
  refine (dsame_d (m := mx) (n := mx) (x := yx) (y := yx) (q := true) (L13.out.get (A := A12) (c := c12) (xs := digs mx.natAbs) (by simp)) (L13.out.get (A := A3) (c := c3) (xs := digs mx.natAbs) (by simp)) Db.out (by simp)).mono ?_
  rintro e w14 ⟨rfl, hb⟩
  have L14 := Lib.hid (L13.out.step hb)
  have Rx_14 := Lib.hid (cells_of Rx_13.out hb)
  have Rtx_14 := Lib.hid (cells_of Rtx_13.out hb)
  have Rbs_14 := Lib.hid (cells_of Rbs_13.out hb)
  have Ra_14 := Lib.hid (cells_of Ra_13.out hb)
  have Rbb_14 := Lib.hid (cells_of Rbb_13.out hb)
  clear hb 
  have e1 := E1.out
  have e2 := E2.out
  have k0 := K0.out
  have k9 := K9.out
  have kk : (k == k) = true := by simp
  have kr : (k + (r - 300) == k + (r - 300)) = true := by simp
  have hw1 : IntKind.i64.wrap (k + (r - 300)) = k + (r - 300) := by rw [IntWalk.i64_in _ (by omega)]
  have hw2 : IntKind.i64.wrap (k - 1) = k - 1 := by rw [IntWalk.i64_in _ (by omega)]
  have fa0 := row_c (i := 0) Ra_14.out rfl
  have za0 := frozen_of_row _ _ 0 _ _ Ra_14.out
  have fa1 := row_c (i := 1) Ra_14.out rfl
  have za1 := frozen_of_row _ _ 1 _ _ Ra_14.out
  have fa2 := row_c (i := 2) Ra_14.out rfl
  have za2 := frozen_of_row _ _ 2 _ _ Ra_14.out
  have xa := heap_lt Ra_14.out
  clear fa0 za0 fa1 za1 fa2 za2 xa
  go_wp2_with fail
  have fa0 := row_c (i := 0) Ra_14.out rfl
  have za0 := frozen_of_row _ _ 0 _ _ Ra_14.out
  have fa1 := row_c (i := 1) Ra_14.out rfl
  have za1 := frozen_of_row _ _ 1 _ _ Ra_14.out
  have fa2 := row_c (i := 2) Ra_14.out rfl
  have za2 := frozen_of_row _ _ 2 _ _ Ra_14.out
  have xa := heap_lt Ra_14.out
  have KD := Lib.hid (bd0 w14)
  have LD := Lib.hid (L14.out.step KD.out)
  go_region_held3 (fun w' => ∀ b o, b < w14.heap.size → w'.cell? ⟨b, o, none⟩ = w14.cell? ⟨b, o, none⟩)
    (first | with_reducible exact (bcell KD.out).1 | with_reducible exact (bcell K16.out).1 | with_reducible exact (bcell K17.out).1 | with_reducible exact (bcell K18.out).1 | with_reducible exact (bcell K19.out).1)
    (first
      | (go_at_call 22; (with_reducible refine (half_u (k - 1) u _ (t32_live HT.out LD.out) (by omega) (by omega) HU.out).mono ?_); rintro e w16 ⟨A16, c16, rfl, hd, hb⟩; (have K16 := Lib.hid (KD.out.trans (hb.mono KD.out.size))); (have L16 := Lib.hid ((LD.out.step hb).add hd)); clear hb hd)
      | (go_at_call_of 28 A16; (with_reducible refine (dcmp_r (m := u) (n := mx) (x := k - 1) (y := yx) (q := j1) (L16.out.get (A := A16) (c := c16) (xs := digs u.natAbs) (by simp)) (L16.out.get (A := A3) (c := c3) (xs := digs mx.natAbs) (by simp)) DU.out (Nat.le_trans Dx.out (by omega)) RU.out RA.out C1.out).mono ?_); rintro e w17 ⟨rfl, hb⟩; (have K17 := Lib.hid (K16.out.trans (hb.mono K16.out.size))); (have L17 := Lib.hid (L16.out.step hb)); clear hb )
      | (go_at_call 22; (with_reducible refine (half_u k u _ (t32_live HT.out L17.out) (by omega) (by omega) HU.out).mono ?_); rintro e w18 ⟨A18, c18, rfl, hd, hb⟩; (have K18 := Lib.hid (K17.out.trans (hb.mono K17.out.size))); (have L18 := Lib.hid ((L17.out.step hb).add hd)); clear hb hd)
      | (go_at_call_of 28 A18; (with_reducible refine (dcmp_l (m := mx) (n := u) (x := yx) (y := k) (q := j2) (L18.out.get (A := A3) (c := c3) (xs := digs mx.natAbs) (by simp)) (L18.out.get (A := A18) (c := c18) (xs := digs u.natAbs) (by simp)) (Nat.le_trans Dx.out (by omega)) DU.out RA.out RV.out C2.out).mono ?_); rintro e w19 ⟨rfl, hb⟩; (have K19 := Lib.hid (K18.out.trans (hb.mono K18.out.size))); (have L19 := Lib.hid (L18.out.step hb)); clear hb ))
  rename_i hHeld
  clear hHeld
  clear fa0 za0 fa1 za1 fa2 za2 xa
  have Rx_19 := Lib.hid (cells_of Rx_14.out K19.out)
  have Rtx_19 := Lib.hid (cells_of Rtx_14.out K19.out)
  have Rbs_19 := Lib.hid (cells_of Rbs_14.out K19.out)
  have Ra_19 := Lib.hid (cells_of Ra_14.out K19.out)
  have Rbb_19 := Lib.hid (cells_of Rbb_14.out K19.out)
  clear KD LD
  go_wp2
  go_ret
  exact ⟨rfl, L19.out.1⟩

theorem dyadSizes_any  (Ax : Option Addr) (cx : Nat) (sx : Bool) (xsx : List Nat) (ex : Int) (n : Int) (w : World)  (hx : Dg w Ax cx xsx) (lx : xsx.length ≤ 9223372036854775807) (ex0 : -9223372036854775808 ≤ ex) (ex1 : ex ≤ 9223372036854775807) (n0 : -9223372036854775808 ≤ n) (n1 : n ≤ 9223372036854775807) (hT : T32 w) :
    Calls Tryd.prog 12 #[.agg #[.bool sx, .slice Ax xsx.length cx, .int .i64 ex], .int .i64 n] w fun e w' => e = .returned (.bool true) ∧ Below w.heap.size w w' := by
  by_cases m0 : nm (sg sx (val (xsx.take 6))) = 0
  · by_cases hn : n < 0
    · exact dyadSizes_zn Ax cx sx xsx ex n w hx lx ex0 ex1 n0 n1 hT m0 hn
    · exact dyadSizes_zp Ax cx sx xsx ex n w hx lx ex0 ex1 n0 n1 hT m0 (by omega)
  · by_cases hn : n < 0
    · exact dyadSizes_yn Ax cx sx xsx ex n w hx lx ex0 ex1 n0 n1 hT m0 hn
    · exact dyadSizes_yp Ax cx sx xsx ex n w hx lx ex0 ex1 n0 n1 hT m0 (by omega)
end Go.Proofs.YtnfafgpnnpapdaaDoor
end

section
/-
  DyadSizes, FOR EVERY ARGUMENT: the law returns true, and each argument reads behind the call as it read ahead of it. THE TIED CARD.
-/
namespace Go.Proofs.YtnfafgpnnpapdaaDoor.dyadSizes
open Go Go.ChangeShapes Go.WideShapes Go.ChangeAt Go.RowKit
set_option linter.unusedVariables false
/-- The door's own heap meets the condition. -/
theorem door_met (os : Os) (args : Array Value) : laidMetH Tryd.prog Rows.dyadSizesRow.laid ((World.doorLaid Tryd.prog 400 os).forCall (fun _ _ => 0) ⟨#[], args, []⟩).memory :=
  laidMetH_of_parts3 (fuel := 8) (laidMet_of_run' 8 (by kernel_rfl) (by kernel_rfl)) (by kernel_rfl) (by kernel_rfl)
set_option maxRecDepth 100000 in
theorem lifted (os : Os) (started : os.Started) (H : Type) (enc : TypeId × Value → H) :
    ReturnsInHanded {} Tryd.checked os 12 .any (fun w args => (Rows.dyadSizesSpec.pre enc Tryd.prog Tryd.f12 [] false w args ∧ laidMetH Tryd.prog Rows.dyadSizesRow.laid w) ∧ sizedMet enc Tryd.prog Tryd.f12 (OpenSpec.ofChange Rows.dyadSizesSpec) false w args)
      (Rows.dyadSizesSpec.post enc Tryd.prog Tryd.f12 false true false false) := by
  refine returnsInHanded_of_change_and (C := Tryd.checked) (X := fun w _ => laidMetH Tryd.prog Rows.dyadSizesRow.laid w) (fun _ _ _ hh h => h.of_heap hh) own started (by kernel_rfl) Tryd.func12
    (ChangeSpec.witness_shaped (enc := enc) (C := Tryd.checked) (os := os) (X := fun w _ => laidMetH Tryd.prog Rows.dyadSizesRow.laid w) false (World.doorLaid Tryd.prog 400 os) #[.agg #[.bool false, .slice none 0 0, .int .i64 0], .int .i64 0] 8 rfl (World.shaped_of_RefB (by kernel_rfl) (by kernel_rfl)) (by kernel_rfl) (by kernel_rfl) (by kernel_rfl) (door_met os _)) ?_
  intro W base args ds gs before hval0 hW _ _ hL _
  rw [MakeChecks.laidMetH_plain _ _ _ (by kernel_rfl)] at hL
  have htab := t32_laid hL
  clear hL
  have hval : ∀ (j : Nat) t v, Tryd.f12.params[j]? = some t → args[j]? = some v → Value.okWide Tryd.prog W .any base t v := hval0
  have hW' := hW
  obtain ⟨p, q, hA0, hV, rfl, hfz, hnd⟩ := hW
  have hA : DataW.TrodAll enc Tryd.prog W 0 (fun _ => true) true Tryd.f12.params.toList args.toList ds p := hA0
  rw [Tryd.params12] at hA hval
  obtain ⟨v0, vs0, d0, ds0, p0, q0, hargs, rfl, rfl, h0, r0⟩ := trodAll_cons hA
  obtain ⟨v1, vs1, d1, ds1, p1, q1, rfl, rfl, rfl, h1, r1⟩ := trodAll_cons r0
  obtain ⟨rfl, rfl, rfl⟩ := trodAll_nil r1
  obtain rfl : args = #[v0, v1] := by cases args; simp_all
  obtain ⟨rfl, rfl⟩ := trodVars_none hV
  obtain ⟨s0, A0, c0, xs0, x0, rfl, g0, l0, x00, x01⟩ := open_d (hval 0 _ _ rfl rfl) h0
  obtain ⟨a1, rfl, e1, e1', g1⟩ := open_int Tryd.underlying3 (hval 1 _ _ rfl rfl) h1
  clear hA0
  simp only [List.append_nil] at hW'
  refine (dyadSizes_any A0 c0 s0 xs0 x0 a1 W g0 l0 x00 x01 (i64_lo g1) (i64_hi g1) htab).mono fun e W' ⟨he, hb⟩ => ?_
  subst he
  have hlt := hW'.lt
  refine ⟨_, rfl, law_post (tb := 4) hW' hb rfl rfl Tryd.underlying4 rfl rfl fun sp hsp => ?_⟩
  have hr := trodAll_cons_mk (again (by kernel_rfl) (of_decide_eq_true (by kernel_rfl)) h0 hb (fun x hx => hlt x (by simp [hx])) sp (fun x hx => hsp x (by simp [hx]))) (trodAll_cons_mk (again (by kernel_rfl) (of_decide_eq_true (by kernel_rfl)) h1 hb (fun x hx => hlt x (by simp [hx])) sp (fun x hx => hsp x (by simp [hx]))) trodAll_mk0)
  simp only [List.append_nil] at hr
  exact hr
theorem row_holds : Rows.DyadSizesSaid :=
  OpenClaim.holds_of_wide 12 Tryd.f12 rfl rfl rfl rfl rfl rfl rfl ⟨rfl, rfl, rfl, rfl, rfl⟩ rfl rfl rfl rfl rfl (by kernel_rfl) Tryd.func12 (by kernel_rfl)
    (of_decide_eq_true (by kernel_rfl)) (by unfold Func.isWrapper; first | (rw [if_pos (by decide +kernel)]; kernel_rfl) | (rw [if_neg (by decide +kernel)]; exact ⟨rfl, rfl⟩))
    (fun os started H enc _ => lifted os started H enc)
/-- THE TIED CARD. -/
theorem proved : Rows.DyadSizesCardSaid :=
  Claim7.holds_tied_plain_at .later [] [.data] true (true, "7c66bf396cc85edd26b252ab6783573fce3f6eda62d94517dafae4d8f0360cd0") false
    row_holds (fun _ h => by cases h) (by kernel_rfl) (fun _ h => by cases h) dyadSizes_row_tie rfl ⟨rfl, rfl⟩ (by kernel_rfl) rfl
    (fun f fn hf hfn => by
      obtain rfl : f = 12 := Option.some.inj ((show Tryd.prog.funcNamed Rows.dyadSizesRow.func = some 12 by kernel_rfl).symm.trans hf) |>.symm
      obtain rfl : fn = Tryd.f12 := (Option.some.inj (Tryd.func12.symm.trans hfn)).symm
      exact ⟨by kernel_rfl, fun j t ht => by
        have hall : (Tryd.f12.params.toList.all fun u => !Tryd.prog.wantsStandIn u) = true := by kernel_rfl
        exact (show Tryd.prog.wantsStandIn t = false by simpa using List.all_eq_true.1 hall t (Array.mem_toList_iff.2 (Array.mem_of_getElem? ht)))⟩)
    (by kernel_rfl)
end Go.Proofs.YtnfafgpnnpapdaaDoor.dyadSizes
end
