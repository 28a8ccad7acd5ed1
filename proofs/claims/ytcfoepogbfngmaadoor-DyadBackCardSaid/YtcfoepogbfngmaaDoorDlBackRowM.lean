import Derived.Test.YtcfoepogbfngmaaDoorMB2
import Derived.Test.YtcfoepogbfngmaaDoorMB4
import Derived.Test.YtcfoepogbfngmaaDoorTie
import Derived.Test.YtcfoepogbfngmaaDoorCards
import Derived.SevenTiedAt
import Derived.OpenShut
import Derived.ChangeMaps5
import Derived.SizedLaws
section
/-
  DyadBack.
-/
namespace Go.Proofs.YtcfoepogbfngmaaDoor
open Go.RowKit
set_option linter.unusedSimpArgs false
set_option linter.unusedVariables false

theorem dbytes_zero (t : ByteArray) (ht : t.data.toList = zb 0 ++ zb 0) (w : World) :
    Calls Tryd.prog 6 #[.agg #[.bool false, .slice none 0 0, .int .i64 0]] w fun e w' => e = .returned (.tuple #[.string t, .int .i64 0]) ∧ Below w.heap.size w w' := by
  have e : digs (0 : Int).natAbs = [] := digs_zero
  have := dbytes_yes none 0 0 0 t w (by rw [e]; exact Dg.nil_ _ _) (by rw [e]; simp) ⟨.inl ⟨rfl, rfl⟩, by omega, by omega⟩ (by unfold inR; simp) ht
  rw [e] at this
  exact this

set_option maxHeartbeats 8000000 in
set_option maxRecDepth 100000 in
theorem dyadBack_y  (Ax : Option Addr) (cx : Nat) (sx : Bool) (xsx : List Nat) (ex : Int) (w : World)  (hx : Dg w Ax cx xsx) (lx : xsx.length ≤ 9223372036854775807) (ex0 : -9223372036854775808 ≤ ex) (ex1 : ex ≤ 9223372036854775807) (hT : T32 w) (rest b : ByteArray) (qr : rest.data.toList.length ≤ 4611686018427387904) (qb : b.data.toList.length ≤ 4611686018427387904) (mz xz : Int) (more : ByteArray) (qz : b.data.toList = zb mz ++ zb xz ++ more.data.toList) (lz : (digs mz.natAbs).length ≤ 400) (rz : Rt mz xz) (iz : inR mz xz = true):
    Calls Tryd.prog 3 #[.agg #[.bool sx, .slice Ax xsx.length cx, .int .i64 ex], .string rest, .string b] w fun e w' => e = .returned (.bool true) ∧ Below w.heap.size w w' := by
  obtain ⟨mx, hmx⟩ : ∃ m, nm (sg sx (val (xsx.take 6))) = m := ⟨_, rfl⟩
  obtain ⟨yx, hyx⟩ : ∃ m, nx (sg sx (val (xsx.take 6))) (tameE ex) = m := ⟨_, rfl⟩
  have tx : Tm mx yx := hmx ▸ hyx ▸ tame_tm hx.2.1
  have bx := True.intro
  have HMx := Lib.hid hmx
  have HYx := Lib.hid hyx
  have LXx := Lib.hid lx
  have E0x := Lib.hid ex0
  have E1x := Lib.hid ex1
  have Rx := Lib.hid tx.rt
  have Ix := Lib.hid tx.inR
  have Dx := Lib.hid (inr_len tx.inR)
  obtain ⟨S, hS⟩ : ∃ S : ByteArray, S.data.toList = zb mx ++ zb yx := ⟨⟨(zb mx ++ zb yx).toArray⟩, rfl⟩
  have len7 := tx.len
  have len400 : (digs mx.natAbs).length ≤ 400 := by omega
  have rx := tx.rt
  have rx0 := rx.2.1
  have rx1 := rx.2.2
  have DB := Lib.hid (fun W A c hW => dbytes_yes A c mx yx S W hW len400 tx.rt tx.inR hS)
  have Sl : S.data.toList.length ≤ 100 := by
    have l1 := zbytes_len (decide (mx < 0)) (digs mx.natAbs)
    have l2 := zbytes_len (decide (yx < 0)) (digs yx.natAbs)
    have l3 : (digs yx.natAbs).length ≤ 2 := digs_small (by omega)
    rw [hS, List.length_append]; unfold zb; omega
  have eS : S.size = S.data.toList.length := by simp
  have er : rest.size = rest.data.toList.length := by simp
  have HSZ := Lib.hid (show ¬ 9223372036854775807 < S.size + rest.size by omega)
  have hcat : (S ++ rest).data.toList = zb mx ++ zb yx ++ rest.data.toList := by rw [← hS]; simp [ByteArray.data_append]
  have DT := Lib.hid (fun W => dtake_yes (b := S ++ rest) (t := rest) (m := mx) (x := yx) hcat len400 tx.rt tx.inR (by rw [hcat, List.length_append, ← hS]; omega) W)
  have Dj := Lib.hid (inr_len tx.inR)
  obtain ⟨Tz, hTz⟩ : ∃ t : ByteArray, t.data.toList = zb mz ++ zb xz := ⟨⟨(zb mz ++ zb xz).toArray⟩, rfl⟩
  have DBZ := Lib.hid (fun W A c hW => dbytes_yes A c mz xz Tz W hW lz rz iz hTz)
  have DZ := Lib.hid (fun W => dtake_yes (b := b) (t := more) (m := mz) (x := xz) qz lz rz iz (by omega) W)
  have hEq : Tz ++ more = b := by apply ByteArray.ext; apply Array.toList_inj.1; rw [qz, ← hTz]; simp [ByteArray.data_append]
  have HEQ := Lib.hid hEq
  have eT : Tz.size = Tz.data.toList.length := by simp
  have em : more.size = more.data.toList.length := by simp
  have HSZ2 := Lib.hid (show ¬ 9223372036854775807 < Tz.size + more.size by
    have l1 := congrArg List.length qz
    rw [List.length_append, ← hTz] at l1
    omega)
  have RZ := Lib.hid rz
  have LZ := Lib.hid lz
  have HT := Lib.hid hT
  clear hT
  have L0 := Lib.hid ((live_start w).add hx)
  clear hx lx ex0 ex1 hmx hyx tx bx hS len7 len400 rx rx0 rx1 Sl eS er hcat qr qb qz hTz hEq eT em lz rz iz
  go_enter Tryd.func3, Tryd.ntmps3
  go_wp2_with fail
  obtain ⟨v1, hW⟩ : ∃ W : World, W = (w.alloc (.cells #[.bool sx, .slice Ax xsx.length cx, .int .i64 ex] 26)) := ⟨_, rfl⟩
  rw [← hW]
  have hb : Below w.heap.size w v1 := by rw [hW]; exact ((Below.refl _ _).alloc (by simp <;> omega) _)
  have L1 := Lib.hid (L0.out.step hb)
  have Rx_1 := Lib.hid (show v1.heap[w.heap.size]? = some (.cells #[.bool sx, .slice Ax xsx.length cx, .int .i64 ex] 26 (0, 0)) by rw [hW]; have := heap_alloc_new w (.cells #[.bool sx, .slice Ax xsx.length cx, .int .i64 ex] 26); simpa using this)
  have Gx : w.heap.size ≤ w.heap.size := by have := L0.out.1.size; omega
  clear hW hb
  refine (dexamples_any _ (t32_live HT.out L1.out)).mono ?_
  rintro e w2 ⟨rfl, hb⟩
  have L2 := Lib.hid (L1.out.step hb)
  have Rx_2 := Lib.hid (cells_of Rx_1.out hb)
  clear hb 
  have fx0 := row_c (i := 0) Rx_2.out rfl
  have zx0 := frozen_of_row _ _ 0 _ _ Rx_2.out
  have fx1 := row_c (i := 1) Rx_2.out rfl
  have zx1 := frozen_of_row _ _ 1 _ _ Rx_2.out
  have fx2 := row_c (i := 2) Rx_2.out rfl
  have zx2 := frozen_of_row _ _ 2 _ _ Rx_2.out
  have xx := heap_lt Rx_2.out
  go_wp2_with fail
  refine (tame_any (M := mx) (E := yx) (L2.out.get (A := Ax) (c := cx) (xs := xsx) (by simp)) (t32_live HT.out L2.out) LXx.out E0x.out E1x.out HMx.out HYx.out).mono ?_
  rintro e w3 ⟨A3, c3, rfl, hd, hb⟩
  have L3 := Lib.hid ((L2.out.step hb).add hd)
  clear fx0 zx0 fx1 zx1 fx2 zx2 xx
  have Rx_3 := Lib.hid (cells_of Rx_2.out hb)
  clear hb hd
  go_wp2_with fail
  obtain ⟨w4, hW⟩ : ∃ W : World, W = (w3.alloc (.cells #[.bool (decide (mx < 0)), .slice A3 (digs mx.natAbs).length c3, .int .i64 yx] 26)) := ⟨_, rfl⟩
  rw [← hW]
  have hb : Below w3.heap.size w3 w4 := by rw [hW]; exact ((Below.refl _ _).alloc (by simp <;> omega) _)
  have L4 := Lib.hid (L3.out.step hb)
  have Rx_4 := Lib.hid (cells_of Rx_3.out hb)
  have Rtx_4 := Lib.hid (show w4.heap[w3.heap.size]? = some (.cells #[.bool (decide (mx < 0)), .slice A3 (digs mx.natAbs).length c3, .int .i64 yx] 26 (0, 0)) by rw [hW]; have := heap_alloc_new w3 (.cells #[.bool (decide (mx < 0)), .slice A3 (digs mx.natAbs).length c3, .int .i64 yx] 26); simpa using this)
  have Gtx : w.heap.size ≤ w3.heap.size := by have := L3.out.1.size; omega
  have Nxtx : w.heap.size < w3.heap.size := by have := heap_lt Rx_3.out; omega
  clear hW hb
  refine (DB.out _ _ _ (L4.out.get (A := A3) (c := c3) (xs := digs mx.natAbs) (by simp))).mono ?_
  rintro e w5 ⟨rfl, hb⟩
  have L5 := Lib.hid (L4.out.step hb)
  have Rx_5 := Lib.hid (cells_of Rx_4.out hb)
  have Rtx_5 := Lib.hid (cells_of Rtx_4.out hb)
  clear hb 
  have hsz := HSZ.out
  go_wp2_with fail
  refine (DT.out _).mono ?_
  rintro e w6 ⟨A6, c6, rfl, hd, hb⟩
  have L6 := Lib.hid ((L5.out.step hb).add hd)
  have Rx_6 := Lib.hid (cells_of Rx_5.out hb)
  have Rtx_6 := Lib.hid (cells_of Rtx_5.out hb)
  clear hb hd
  clear hsz
  have ftx0 := row_c (i := 0) Rtx_6.out rfl
  have ztx0 := frozen_of_row _ _ 0 _ _ Rtx_6.out
  have ftx1 := row_c (i := 1) Rtx_6.out rfl
  have ztx1 := frozen_of_row _ _ 1 _ _ Rtx_6.out
  have ftx2 := row_c (i := 2) Rtx_6.out rfl
  have ztx2 := frozen_of_row _ _ 2 _ _ Rtx_6.out
  have xtx := heap_lt Rtx_6.out
  go_wp2_with fail
  obtain ⟨w7, hW⟩ : ∃ W : World, W = (w6.alloc (.cells #[.bool (decide (mx < 0)), .slice A6 (digs mx.natAbs).length c6, .int .i64 yx] 26)) := ⟨_, rfl⟩
  rw [← hW]
  have hb : Below w6.heap.size w6 w7 := by rw [hW]; exact ((Below.refl _ _).alloc (by simp <;> omega) _)
  have L7 := Lib.hid (L6.out.step hb)
  have Rx_7 := Lib.hid (cells_of Rx_6.out hb)
  have Rtx_7 := Lib.hid (cells_of Rtx_6.out hb)
  have Rbj_7 := Lib.hid (show w7.heap[w6.heap.size]? = some (.cells #[.bool (decide (mx < 0)), .slice A6 (digs mx.natAbs).length c6, .int .i64 yx] 26 (0, 0)) by rw [hW]; have := heap_alloc_new w6 (.cells #[.bool (decide (mx < 0)), .slice A6 (digs mx.natAbs).length c6, .int .i64 yx] 26); simpa using this)
  have Gbj : w.heap.size ≤ w6.heap.size := by have := L6.out.1.size; omega
  have Nxbj : w.heap.size < w6.heap.size := by have := heap_lt Rx_6.out; omega
  have Ntxbj : w3.heap.size < w6.heap.size := by have := heap_lt Rtx_6.out; omega
  clear hW hb
  clear ftx0 ztx0 ftx1 ztx1 ftx2 ztx2 xtx
  refine (dsame_d (m := mx) (n := mx) (x := yx) (y := yx) (q := true) (L7.out.get (A := A6) (c := c6) (xs := digs mx.natAbs) (by simp)) (L7.out.get (A := A3) (c := c3) (xs := digs mx.natAbs) (by simp)) Dj.out (by simp)).mono ?_
  rintro e w8 ⟨rfl, hb⟩
  have L8 := Lib.hid (L7.out.step hb)
  have Rx_8 := Lib.hid (cells_of Rx_7.out hb)
  have Rtx_8 := Lib.hid (cells_of Rtx_7.out hb)
  have Rbj_8 := Lib.hid (cells_of Rbj_7.out hb)
  clear hb 
  go_wp2_with fail
  refine (DZ.out _).mono ?_
  rintro e w9 ⟨A9, c9, rfl, hd, hb⟩
  have L9 := Lib.hid ((L8.out.step hb).add hd)
  have Rx_9 := Lib.hid (cells_of Rx_8.out hb)
  have Rtx_9 := Lib.hid (cells_of Rtx_8.out hb)
  have Rbj_9 := Lib.hid (cells_of Rbj_8.out hb)
  clear hb hd
  go_wp2_with fail
  obtain ⟨w10, hW⟩ : ∃ W : World, W = (w9.alloc (.cells #[.bool (decide (mz < 0)), .slice A9 (digs mz.natAbs).length c9, .int .i64 xz] 26)) := ⟨_, rfl⟩
  rw [← hW]
  have hb : Below w9.heap.size w9 w10 := by rw [hW]; exact ((Below.refl _ _).alloc (by simp <;> omega) _)
  have L10 := Lib.hid (L9.out.step hb)
  have Rx_10 := Lib.hid (cells_of Rx_9.out hb)
  have Rtx_10 := Lib.hid (cells_of Rtx_9.out hb)
  have Rbj_10 := Lib.hid (cells_of Rbj_9.out hb)
  have Rbz_10 := Lib.hid (show w10.heap[w9.heap.size]? = some (.cells #[.bool (decide (mz < 0)), .slice A9 (digs mz.natAbs).length c9, .int .i64 xz] 26 (0, 0)) by rw [hW]; have := heap_alloc_new w9 (.cells #[.bool (decide (mz < 0)), .slice A9 (digs mz.natAbs).length c9, .int .i64 xz] 26); simpa using this)
  have Gbz : w.heap.size ≤ w9.heap.size := by have := L9.out.1.size; omega
  have Nxbz : w.heap.size < w9.heap.size := by have := heap_lt Rx_9.out; omega
  have Ntxbz : w3.heap.size < w9.heap.size := by have := heap_lt Rtx_9.out; omega
  have Nbjbz : w6.heap.size < w9.heap.size := by have := heap_lt Rbj_9.out; omega
  clear hW hb
  refine (DBZ.out _ _ _ (L10.out.get (A := A9) (c := c9) (xs := digs mz.natAbs) (by simp))).mono ?_
  rintro e w11 ⟨rfl, hb⟩
  have L11 := Lib.hid (L10.out.step hb)
  have Rx_11 := Lib.hid (cells_of Rx_10.out hb)
  have Rtx_11 := Lib.hid (cells_of Rtx_10.out hb)
  have Rbj_11 := Lib.hid (cells_of Rbj_10.out hb)
  have Rbz_11 := Lib.hid (cells_of Rbz_10.out hb)
  clear hb 
  have hsz := HSZ2.out
  have hEq := HEQ.out
  have fbz0 := row_c (i := 0) Rbz_11.out rfl
  have zbz0 := frozen_of_row _ _ 0 _ _ Rbz_11.out
  have fbz1 := row_c (i := 1) Rbz_11.out rfl
  have zbz1 := frozen_of_row _ _ 1 _ _ Rbz_11.out
  have fbz2 := row_c (i := 2) Rbz_11.out rfl
  have zbz2 := frozen_of_row _ _ 2 _ _ Rbz_11.out
  have xbz := heap_lt Rbz_11.out
  go_wp2_with fail
  refine (dright_any A9 c9 (decide (mz < 0)) (digs mz.natAbs) xz _ (L11.out.get (A := A9) (c := c9) (xs := digs mz.natAbs) (by simp)) true (dyR_num RZ.out) (Nat.le_trans LZ.out (by omega))).mono ?_
  rintro e w12 ⟨rfl, hb⟩
  have L12 := Lib.hid (L11.out.step hb)
  clear fbz0 zbz0 fbz1 zbz1 fbz2 zbz2 xbz
  have Rx_12 := Lib.hid (cells_of Rx_11.out hb)
  have Rtx_12 := Lib.hid (cells_of Rtx_11.out hb)
  have Rbj_12 := Lib.hid (cells_of Rbj_11.out hb)
  have Rbz_12 := Lib.hid (cells_of Rbz_11.out hb)
  clear hb 
  go_wp2
  go_ret
  exact ⟨rfl, L12.out.1⟩

set_option maxHeartbeats 8000000 in
set_option maxRecDepth 100000 in
theorem dyadBack_n  (Ax : Option Addr) (cx : Nat) (sx : Bool) (xsx : List Nat) (ex : Int) (w : World)  (hx : Dg w Ax cx xsx) (lx : xsx.length ≤ 9223372036854775807) (ex0 : -9223372036854775808 ≤ ex) (ex1 : ex ≤ 9223372036854775807) (hT : T32 w) (rest b : ByteArray) (qr : rest.data.toList.length ≤ 4611686018427387904) (qb : b.data.toList.length ≤ 4611686018427387904) (qz : ¬ ∃ m x t, b.data.toList = zb m ++ zb x ++ t ∧ (digs m.natAbs).length ≤ 400 ∧ Rt m x ∧ inR m x = true):
    Calls Tryd.prog 3 #[.agg #[.bool sx, .slice Ax xsx.length cx, .int .i64 ex], .string rest, .string b] w fun e w' => e = .returned (.bool true) ∧ Below w.heap.size w w' := by
  obtain ⟨mx, hmx⟩ : ∃ m, nm (sg sx (val (xsx.take 6))) = m := ⟨_, rfl⟩
  obtain ⟨yx, hyx⟩ : ∃ m, nx (sg sx (val (xsx.take 6))) (tameE ex) = m := ⟨_, rfl⟩
  have tx : Tm mx yx := hmx ▸ hyx ▸ tame_tm hx.2.1
  have bx := True.intro
  have HMx := Lib.hid hmx
  have HYx := Lib.hid hyx
  have LXx := Lib.hid lx
  have E0x := Lib.hid ex0
  have E1x := Lib.hid ex1
  have Rx := Lib.hid tx.rt
  have Ix := Lib.hid tx.inR
  have Dx := Lib.hid (inr_len tx.inR)
  obtain ⟨S, hS⟩ : ∃ S : ByteArray, S.data.toList = zb mx ++ zb yx := ⟨⟨(zb mx ++ zb yx).toArray⟩, rfl⟩
  have len7 := tx.len
  have len400 : (digs mx.natAbs).length ≤ 400 := by omega
  have rx := tx.rt
  have rx0 := rx.2.1
  have rx1 := rx.2.2
  have DB := Lib.hid (fun W A c hW => dbytes_yes A c mx yx S W hW len400 tx.rt tx.inR hS)
  have Sl : S.data.toList.length ≤ 100 := by
    have l1 := zbytes_len (decide (mx < 0)) (digs mx.natAbs)
    have l2 := zbytes_len (decide (yx < 0)) (digs yx.natAbs)
    have l3 : (digs yx.natAbs).length ≤ 2 := digs_small (by omega)
    rw [hS, List.length_append]; unfold zb; omega
  have eS : S.size = S.data.toList.length := by simp
  have er : rest.size = rest.data.toList.length := by simp
  have HSZ := Lib.hid (show ¬ 9223372036854775807 < S.size + rest.size by omega)
  have hcat : (S ++ rest).data.toList = zb mx ++ zb yx ++ rest.data.toList := by rw [← hS]; simp [ByteArray.data_append]
  have DT := Lib.hid (fun W => dtake_yes (b := S ++ rest) (t := rest) (m := mx) (x := yx) hcat len400 tx.rt tx.inR (by rw [hcat, List.length_append, ← hS]; omega) W)
  have Dj := Lib.hid (inr_len tx.inR)
  obtain ⟨Tz, hTz⟩ : ∃ t : ByteArray, t.data.toList = zb 0 ++ zb 0 := ⟨⟨(zb 0 ++ zb 0).toArray⟩, rfl⟩
  have DBZ := Lib.hid (fun W => dbytes_zero Tz hTz W)
  have DZ := Lib.hid (fun W => dtake_no qz (by omega) W)
  have HT := Lib.hid hT
  clear hT
  have L0 := Lib.hid ((live_start w).add hx)
  clear hx lx ex0 ex1 hmx hyx tx bx hS len7 len400 rx rx0 rx1 Sl eS er hcat qr qb qz hTz
  go_enter Tryd.func3, Tryd.ntmps3
  go_wp2_with fail
  obtain ⟨v1, hW⟩ : ∃ W : World, W = (w.alloc (.cells #[.bool sx, .slice Ax xsx.length cx, .int .i64 ex] 26)) := ⟨_, rfl⟩
  rw [← hW]
  have hb : Below w.heap.size w v1 := by rw [hW]; exact ((Below.refl _ _).alloc (by simp <;> omega) _)
  have L1 := Lib.hid (L0.out.step hb)
  have Rx_1 := Lib.hid (show v1.heap[w.heap.size]? = some (.cells #[.bool sx, .slice Ax xsx.length cx, .int .i64 ex] 26 (0, 0)) by rw [hW]; have := heap_alloc_new w (.cells #[.bool sx, .slice Ax xsx.length cx, .int .i64 ex] 26); simpa using this)
  have Gx : w.heap.size ≤ w.heap.size := by have := L0.out.1.size; omega
  clear hW hb
  refine (dexamples_any _ (t32_live HT.out L1.out)).mono ?_
  rintro e w2 ⟨rfl, hb⟩
  have L2 := Lib.hid (L1.out.step hb)
  have Rx_2 := Lib.hid (cells_of Rx_1.out hb)
  clear hb 
  have fx0 := row_c (i := 0) Rx_2.out rfl
  have zx0 := frozen_of_row _ _ 0 _ _ Rx_2.out
  have fx1 := row_c (i := 1) Rx_2.out rfl
  have zx1 := frozen_of_row _ _ 1 _ _ Rx_2.out
  have fx2 := row_c (i := 2) Rx_2.out rfl
  have zx2 := frozen_of_row _ _ 2 _ _ Rx_2.out
  have xx := heap_lt Rx_2.out
  go_wp2_with fail
  refine (tame_any (M := mx) (E := yx) (L2.out.get (A := Ax) (c := cx) (xs := xsx) (by simp)) (t32_live HT.out L2.out) LXx.out E0x.out E1x.out HMx.out HYx.out).mono ?_
  rintro e w3 ⟨A3, c3, rfl, hd, hb⟩
  have L3 := Lib.hid ((L2.out.step hb).add hd)
  clear fx0 zx0 fx1 zx1 fx2 zx2 xx
  have Rx_3 := Lib.hid (cells_of Rx_2.out hb)
  clear hb hd
  go_wp2_with fail
  obtain ⟨w4, hW⟩ : ∃ W : World, W = (w3.alloc (.cells #[.bool (decide (mx < 0)), .slice A3 (digs mx.natAbs).length c3, .int .i64 yx] 26)) := ⟨_, rfl⟩
  rw [← hW]
  have hb : Below w3.heap.size w3 w4 := by rw [hW]; exact ((Below.refl _ _).alloc (by simp <;> omega) _)
  have L4 := Lib.hid (L3.out.step hb)
  have Rx_4 := Lib.hid (cells_of Rx_3.out hb)
  have Rtx_4 := Lib.hid (show w4.heap[w3.heap.size]? = some (.cells #[.bool (decide (mx < 0)), .slice A3 (digs mx.natAbs).length c3, .int .i64 yx] 26 (0, 0)) by rw [hW]; have := heap_alloc_new w3 (.cells #[.bool (decide (mx < 0)), .slice A3 (digs mx.natAbs).length c3, .int .i64 yx] 26); simpa using this)
  have Gtx : w.heap.size ≤ w3.heap.size := by have := L3.out.1.size; omega
  have Nxtx : w.heap.size < w3.heap.size := by have := heap_lt Rx_3.out; omega
  clear hW hb
  refine (DB.out _ _ _ (L4.out.get (A := A3) (c := c3) (xs := digs mx.natAbs) (by simp))).mono ?_
  rintro e w5 ⟨rfl, hb⟩
  have L5 := Lib.hid (L4.out.step hb)
  have Rx_5 := Lib.hid (cells_of Rx_4.out hb)
  have Rtx_5 := Lib.hid (cells_of Rtx_4.out hb)
  clear hb 
  have hsz := HSZ.out
  go_wp2_with fail
  refine (DT.out _).mono ?_
  rintro e w6 ⟨A6, c6, rfl, hd, hb⟩
  have L6 := Lib.hid ((L5.out.step hb).add hd)
  have Rx_6 := Lib.hid (cells_of Rx_5.out hb)
  have Rtx_6 := Lib.hid (cells_of Rtx_5.out hb)
  clear hb hd
  clear hsz
  have ftx0 := row_c (i := 0) Rtx_6.out rfl
  have ztx0 := frozen_of_row _ _ 0 _ _ Rtx_6.out
  have ftx1 := row_c (i := 1) Rtx_6.out rfl
  have ztx1 := frozen_of_row _ _ 1 _ _ Rtx_6.out
  have ftx2 := row_c (i := 2) Rtx_6.out rfl
  have ztx2 := frozen_of_row _ _ 2 _ _ Rtx_6.out
  have xtx := heap_lt Rtx_6.out
  go_wp2_with fail
  obtain ⟨w7, hW⟩ : ∃ W : World, W = (w6.alloc (.cells #[.bool (decide (mx < 0)), .slice A6 (digs mx.natAbs).length c6, .int .i64 yx] 26)) := ⟨_, rfl⟩
  rw [← hW]
  have hb : Below w6.heap.size w6 w7 := by rw [hW]; exact ((Below.refl _ _).alloc (by simp <;> omega) _)
  have L7 := Lib.hid (L6.out.step hb)
  have Rx_7 := Lib.hid (cells_of Rx_6.out hb)
  have Rtx_7 := Lib.hid (cells_of Rtx_6.out hb)
  have Rbj_7 := Lib.hid (show w7.heap[w6.heap.size]? = some (.cells #[.bool (decide (mx < 0)), .slice A6 (digs mx.natAbs).length c6, .int .i64 yx] 26 (0, 0)) by rw [hW]; have := heap_alloc_new w6 (.cells #[.bool (decide (mx < 0)), .slice A6 (digs mx.natAbs).length c6, .int .i64 yx] 26); simpa using this)
  have Gbj : w.heap.size ≤ w6.heap.size := by have := L6.out.1.size; omega
  have Nxbj : w.heap.size < w6.heap.size := by have := heap_lt Rx_6.out; omega
  have Ntxbj : w3.heap.size < w6.heap.size := by have := heap_lt Rtx_6.out; omega
  clear hW hb
  clear ftx0 ztx0 ftx1 ztx1 ftx2 ztx2 xtx
  refine (dsame_d (m := mx) (n := mx) (x := yx) (y := yx) (q := true) (L7.out.get (A := A6) (c := c6) (xs := digs mx.natAbs) (by simp)) (L7.out.get (A := A3) (c := c3) (xs := digs mx.natAbs) (by simp)) Dj.out (by simp)).mono ?_
  rintro e w8 ⟨rfl, hb⟩
  have L8 := Lib.hid (L7.out.step hb)
  have Rx_8 := Lib.hid (cells_of Rx_7.out hb)
  have Rtx_8 := Lib.hid (cells_of Rtx_7.out hb)
  have Rbj_8 := Lib.hid (cells_of Rbj_7.out hb)
  clear hb 
  go_wp2_with fail
  refine (DZ.out _).mono ?_
  rintro e w9 ⟨rfl, hb⟩
  have L9 := Lib.hid (L8.out.step hb)
  have Rx_9 := Lib.hid (cells_of Rx_8.out hb)
  have Rtx_9 := Lib.hid (cells_of Rtx_8.out hb)
  have Rbj_9 := Lib.hid (cells_of Rbj_8.out hb)
  clear hb 
  go_wp2_with fail
  obtain ⟨w10, hW⟩ : ∃ W : World, W = (w9.alloc (.cells #[.bool false, .slice none 0 0, .int .i64 0] 26)) := ⟨_, rfl⟩
  rw [← hW]
  have hb : Below w9.heap.size w9 w10 := by rw [hW]; exact ((Below.refl _ _).alloc (by simp <;> omega) _)
  have L10 := Lib.hid (L9.out.step hb)
  have Rx_10 := Lib.hid (cells_of Rx_9.out hb)
  have Rtx_10 := Lib.hid (cells_of Rtx_9.out hb)
  have Rbj_10 := Lib.hid (cells_of Rbj_9.out hb)
  have Rbz_10 := Lib.hid (show w10.heap[w9.heap.size]? = some (.cells #[.bool false, .slice none 0 0, .int .i64 0] 26 (0, 0)) by rw [hW]; have := heap_alloc_new w9 (.cells #[.bool false, .slice none 0 0, .int .i64 0] 26); simpa using this)
  have Gbz : w.heap.size ≤ w9.heap.size := by have := L9.out.1.size; omega
  have Nxbz : w.heap.size < w9.heap.size := by have := heap_lt Rx_9.out; omega
  have Ntxbz : w3.heap.size < w9.heap.size := by have := heap_lt Rtx_9.out; omega
  have Nbjbz : w6.heap.size < w9.heap.size := by have := heap_lt Rbj_9.out; omega
  clear hW hb
  refine (DBZ.out _).mono ?_
  rintro e w11 ⟨rfl, hb⟩
  have L11 := Lib.hid (L10.out.step hb)
  have Rx_11 := Lib.hid (cells_of Rx_10.out hb)
  have Rtx_11 := Lib.hid (cells_of Rtx_10.out hb)
  have Rbj_11 := Lib.hid (cells_of Rbj_10.out hb)
  have Rbz_11 := Lib.hid (cells_of Rbz_10.out hb)
  clear hb 
  go_wp2
  go_ret
  exact ⟨rfl, L11.out.1⟩

theorem dyadBack_any (Ax : Option Addr) (cx : Nat) (sx : Bool) (xsx : List Nat) (ex : Int) (w : World) (hx : Dg w Ax cx xsx) (lx : xsx.length ≤ 9223372036854775807) (ex0 : -9223372036854775808 ≤ ex) (ex1 : ex ≤ 9223372036854775807) (hT : T32 w) (rest b : ByteArray) (qr : rest.data.toList.length ≤ 4611686018427387904) (qb : b.data.toList.length ≤ 4611686018427387904) :
    Calls Tryd.prog 3 #[.agg #[.bool sx, .slice Ax xsx.length cx, .int .i64 ex], .string rest, .string b] w fun e w' => e = .returned (.bool true) ∧ Below w.heap.size w w' := by
  by_cases h : ∃ m x t, b.data.toList = zb m ++ zb x ++ t ∧ (digs m.natAbs).length ≤ 400 ∧ Rt m x ∧ inR m x = true
  · obtain ⟨m, x, t, hb, hl, hr, hi⟩ := h
    exact dyadBack_y Ax cx sx xsx ex w hx lx ex0 ex1 hT rest b qr qb m x ⟨t.toArray⟩ hb hl hr hi
  · exact dyadBack_n Ax cx sx xsx ex w hx lx ex0 ex1 hT rest b qr qb h
end Go.Proofs.YtcfoepogbfngmaaDoor
end

section
/-
  DyadBack, FOR EVERY ARGUMENT: the law returns true, and each argument reads behind the call as it read ahead of it. THE TIED CARD.
-/
namespace Go.Proofs.YtcfoepogbfngmaaDoor.dyadBack
open Go Go.ChangeShapes Go.WideShapes Go.ChangeAt Go.RowKit
set_option linter.unusedVariables false
/-- The door's own heap meets the condition. -/
theorem door_met (os : Os) (args : Array Value) : laidMetH Tryd.prog Rows.dyadBackRow.laid ((World.doorLaid Tryd.prog 400 os).forCall (fun _ _ => 0) ⟨#[], args, []⟩).memory :=
  laidMetH_of_parts3 (fuel := 8) (laidMet_of_run' 8 (by kernel_rfl) (by kernel_rfl)) (by kernel_rfl) (by kernel_rfl)
set_option maxRecDepth 100000 in
theorem lifted (os : Os) (started : os.Started) (H : Type) (enc : TypeId × Value → H) :
    ReturnsInHanded {} Tryd.checked os 3 .any (fun w args => (Rows.dyadBackSpec.pre enc Tryd.prog Tryd.f3 [] false w args ∧ laidMetH Tryd.prog Rows.dyadBackRow.laid w) ∧ sizedMet enc Tryd.prog Tryd.f3 (OpenSpec.ofChange Rows.dyadBackSpec) false w args)
      (Rows.dyadBackSpec.post enc Tryd.prog Tryd.f3 false true false false) := by
  refine returnsInHanded_of_change_and (C := Tryd.checked) (X := fun w _ => laidMetH Tryd.prog Rows.dyadBackRow.laid w) (fun _ _ _ hh h => h.of_heap hh) own started (by kernel_rfl) Tryd.func3
    (ChangeSpec.witness_shaped (enc := enc) (C := Tryd.checked) (os := os) (X := fun w _ => laidMetH Tryd.prog Rows.dyadBackRow.laid w) false (World.doorLaid Tryd.prog 400 os) #[.agg #[.bool false, .slice none 0 0, .int .i64 0], .string ⟨#[]⟩, .string ⟨#[]⟩] 8 rfl (World.shaped_of_RefB (by kernel_rfl) (by kernel_rfl)) (by kernel_rfl) (by kernel_rfl) (by kernel_rfl) (door_met os _)) ?_
  intro W base args ds gs before hval0 hW _ hsz hL _
  rw [MakeChecks.laidMetH_plain _ _ _ (by kernel_rfl)] at hL
  have htab := t32_laid hL
  clear hL
  have hval : ∀ (j : Nat) t v, Tryd.f3.params[j]? = some t → args[j]? = some v → Value.okWide Tryd.prog W .any base t v := hval0
  have hW' := hW
  obtain ⟨p, q, hA0, hV, rfl, hfz, hnd⟩ := hW
  have hA : DataW.TrodAll enc Tryd.prog W 0 (fun _ => true) true Tryd.f3.params.toList args.toList ds p := hA0
  rw [Tryd.params3] at hA hval
  obtain ⟨v0, vs0, d0, ds0, p0, q0, hargs, rfl, rfl, h0, r0⟩ := trodAll_cons hA
  obtain ⟨v1, vs1, d1, ds1, p1, q1, rfl, rfl, rfl, h1, r1⟩ := trodAll_cons r0
  obtain ⟨v2, vs2, d2, ds2, p2, q2, rfl, rfl, rfl, h2, r2⟩ := trodAll_cons r1
  obtain ⟨rfl, rfl, rfl⟩ := trodAll_nil r2
  obtain rfl : args = #[v0, v1, v2] := by cases args; simp_all
  obtain ⟨rfl, rfl⟩ := trodVars_none hV
  obtain ⟨s0, A0, c0, xs0, x0, rfl, g0, l0, x00, x01⟩ := open_d (hval 0 _ _ rfl rfl) h0
  obtain ⟨b1, rfl, e1, e1', l1⟩ := Go.ChangeMaps.open_string Tryd.underlying9 (hval 1 _ _ rfl rfl) h1
  obtain ⟨b2, rfl, e2, e2', l2⟩ := Go.ChangeMaps.open_string Tryd.underlying9 (hval 2 _ _ rfl rfl) h2
  have q1 : b1.data.toList.length ≤ reachBytes := by
    subst e1
    exact sized_string (j := 1) (t := 9) hsz rfl rfl
  have q2 : b2.data.toList.length ≤ reachBytes := by
    subst e2
    exact sized_string (j := 2) (t := 9) hsz rfl rfl
  clear hA0
  simp only [List.append_nil] at hW'
  refine (dyadBack_any A0 c0 s0 xs0 x0 W g0 l0 x00 x01 htab b1 b2 (by have := q1; unfold reachBytes at this; omega) (by have := q2; unfold reachBytes at this; omega)).mono fun e W' ⟨he, hb⟩ => ?_
  subst he
  have hlt := hW'.lt
  refine ⟨_, rfl, law_post (tb := 4) hW' hb rfl rfl Tryd.underlying4 rfl rfl fun sp hsp => ?_⟩
  have hr := trodAll_cons_mk (again (by kernel_rfl) (of_decide_eq_true (by kernel_rfl)) h0 hb (fun x hx => hlt x (by simp [hx])) sp (fun x hx => hsp x (by simp [hx]))) (trodAll_cons_mk (again (by kernel_rfl) (of_decide_eq_true (by kernel_rfl)) h1 hb (fun x hx => hlt x (by simp [hx])) sp (fun x hx => hsp x (by simp [hx]))) (trodAll_cons_mk (again (by kernel_rfl) (of_decide_eq_true (by kernel_rfl)) h2 hb (fun x hx => hlt x (by simp [hx])) sp (fun x hx => hsp x (by simp [hx]))) trodAll_mk0))
  simp only [List.append_nil] at hr
  exact hr
theorem row_holds : Rows.DyadBackSaid :=
  OpenClaim.holds_of_wide 3 Tryd.f3 rfl rfl rfl rfl rfl rfl rfl ⟨rfl, rfl, rfl, rfl, rfl⟩ rfl rfl rfl rfl rfl (by kernel_rfl) Tryd.func3 (by kernel_rfl)
    (of_decide_eq_true (by kernel_rfl)) (by unfold Func.isWrapper; first | (rw [if_pos (by decide +kernel)]; kernel_rfl) | (rw [if_neg (by decide +kernel)]; exact ⟨rfl, rfl⟩))
    (fun os started H enc _ => lifted os started H enc)
/-- THE TIED CARD. -/
theorem proved : Rows.DyadBackCardSaid :=
  Claim7.holds_tied_plain_at .later [] [.data] true (true, "732472c306d19046c427d57f7599e1d406f87480add1d49fe07bc6c6322ac859") false
    row_holds (fun _ h => by cases h) (by kernel_rfl) (fun _ h => by cases h) dyadBack_row_tie rfl ⟨rfl, rfl⟩ (by kernel_rfl) rfl
    (fun f fn hf hfn => by
      obtain rfl : f = 3 := Option.some.inj ((show Tryd.prog.funcNamed Rows.dyadBackRow.func = some 3 by kernel_rfl).symm.trans hf) |>.symm
      obtain rfl : fn = Tryd.f3 := (Option.some.inj (Tryd.func3.symm.trans hfn)).symm
      exact ⟨by kernel_rfl, fun j t ht => by
        have hall : (Tryd.f3.params.toList.all fun u => !Tryd.prog.wantsStandIn u) = true := by kernel_rfl
        exact (show Tryd.prog.wantsStandIn t = false by simpa using List.all_eq_true.1 hall t (Array.mem_toList_iff.2 (Array.mem_of_getElem? ht)))⟩)
    (by kernel_rfl)
end Go.Proofs.YtcfoepogbfngmaaDoor.dyadBack
end
