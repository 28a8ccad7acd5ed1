import Derived.Test.YthgkdpfkaobgoaaDoorM4
import Derived.Test.YthgkdpfkaobgoaaDoorM3
import Derived.Shelf.Strings.Builder1
import Derived.Shelf.Strings.Builder2
import Derived.Shelf.Strings.OnBuilder
import Derived.Shelf.Small.Bits
import Derived.Shelf.Strings.BuilderF
import Derived.Shelf.Strings.BuilderK
import Derived.Shelf.Strings.Builder2Cap
import Derived.Shelf.Strconv.Itoa0
import Derived.Shelf.Strconv.Itoa1
import Derived.Shelf.LaysM
import Derived.Shelf.Strconv.Itoa2
import Derived.Shelf.Strings.Prefix
import Derived.Shelf.Bits.Mul64
import Derived.Shelf.Strings.Repeat
import Derived.Shelf.Strings.BuilderCap
import Derived.Ground.Names2Prog
import Derived.Shelf.Slices.ReverseS
import Derived.Shelf.Slices.Cells
import Derived.Test.YthgkdpfkaobgoaaDoorProg
import Derived.Test.YthgkdpfkaobgoaaDoorM1
import Derived.Laws.IdiomStrings
import Derived.Lib.Slices
import Derived.Laws.OwnMore
import Derived.Lib.AppendIntMem
import Derived.Lib.Walk
import Derived.Test.YthgkdpfkaobgoaaDoorM2
import Derived.Lib.OwnBridge
import Derived.Lib.Join
import Derived.Lib.ItoaLen
section
/-
  zint.Shift, downwards.
-/
namespace Go.Proofs.YthgkdpfkaobgoaaDoor
open Go.RowKit
set_option maxHeartbeats 4000000 in
set_option maxRecDepth 100000 in
theorem zshift_down (A : Option Addr) (c : Nat) (s : Bool) (xs : List Nat) (k : Nat) (n : Int) (w : World) (h : Dg w A c xs) (hl : xs.length ≤ 1000000) (h0 : 0 < k) (hk : k ≤ 100000) (hn : n = -(k : Int)) :
    Calls Tryd.prog 35 #[.agg #[.bool s, .slice A xs.length c], .int .i64 n] w fun e w' => Zb (sg s (val xs) / 2 ^ k) w e w' := by
  have l1 := digs_len_le h.2.1
  have TA := Lib.hid (fun W h => take_any A c s xs W h (by omega))
  have E1 := Lib.hid (sg_take s (val xs))
  obtain ⟨t1, ht1⟩ : ∃ t, (s && decide (0 < val xs)) = t := ⟨_, rfl⟩
  rw [ht1] at TA E1
  clear ht1
  obtain ⟨Z, hZ⟩ : ∃ Z, sg s (val xs) = Z := ⟨_, rfl⟩
  rw [hZ] at E1
  rw [hZ]
  clear hZ
  obtain ⟨x, hx⟩ : ∃ x, val xs = x := ⟨_, rfl⟩
  rw [hx] at TA E1 l1
  clear hx
  have d0 : decide (n < -100000) = false := decide_eq_false (by omega)
  have d1 : decide (100000 < n) = false := decide_eq_false (by omega)
  have d2 : decide (0 ≤ n) = false := decide_eq_false (by omega)
  have b1 := digs_len_mono _ _ (Nat.div_le_self x (2 ^ k))
  have b2 : (digs (x / 2 ^ k * 2 ^ k)).length ≤ (digs (x / 2 ^ k)).length + 3126 := by have := digs_shl_len (x / 2 ^ k) k; omega
  have SR := Lib.hid (fun A1 c1 W h => shr_any A1 c1 (digs x) k W h (by omega) (by omega))
  simp only [val_digs] at SR
  have SL := Lib.hid (fun A1 c1 W h => shl_any A1 c1 (digs (x / 2 ^ k)) k W h (by omega) hk)
  simp only [val_digs] at SL
  have HKB := Lib.hid (And.intro h0 hk)
  have nn : -n = (k : Int) := by omega
  have n0 : -100000 ≤ n := by omega
  have n1 : n < 0 := by omega
  clear h0 hk hn
  go_enter Tryd.func35, Tryd.ntmps35
  go_upto_region 3 with fail
  have HB0 := Lib.hid (below2 w (.cells #[.bool s, .slice A xs.length c] 24) (.cells #[.bool false, .slice none 0 0] 24))
  obtain ⟨W, hW⟩ : ∃ W : World, W = (w.alloc (.cells #[.bool s, .slice A xs.length c] 24)).alloc (.cells #[.bool false, .slice none 0 0] 24) := ⟨_, rfl⟩
  have f1 : W.cell? ⟨w.heap.size, 0, none⟩ = some (.bool s) := by rw [hW]; go_simp
  have f2 : W.cell? ⟨w.heap.size, 1, none⟩ = some (.slice A xs.length c) := by rw [hW]; go_simp
  have HR0 := Lib.hid (show W.heap[w.heap.size + 1]? = some (.cells #[.bool false, .slice none 0 0] 24 (0, 0)) by rw [hW]; have := heap_alloc_new (w.alloc (.cells #[.bool s, .slice A xs.length c] 24)) (.cells #[.bool false, .slice none 0 0] 24); simpa using this)
  rw [← hW] at HB0
  rw [← hW]
  have H1 := Lib.hid (h.below HB0.out)
  have hsz : W.heap.size = w.heap.size + 2 := by rw [hW]; simp
  clear hW h
  go_wp2_with fail
  refine (TA.out _ H1.out).mono ?_
  rintro e w1 ⟨A1, c1, rfl, hd, hb⟩
  have K1 := Lib.hid hb
  have G1 := Lib.hid hd
  have z1 := hb.size
  clear hb hd f1 f2 TA
  go_wp2_with fail
  refine (SR.out A1 c1 _ (G1.out.below (below1 _ _))).mono ?_
  rintro e w2 ⟨A2, c2, rfl, hd, hb⟩
  have K2 := Lib.hid (K1.out.trans (((below1 _ _).trans (hb.mono (by simp))).mono K1.out.size))
  have RX := Lib.hid (cells_of (heap_alloc_new w1 (.cells #[.slice A1 (digs x).length c1, .bool t1] 59)) hb)
  have G2 := Lib.hid hd
  have G1b := Lib.hid ((G1.out.below (below1 w1 (.cells #[.slice A1 (digs x).length c1, .bool t1] 59))).below hb)
  have z2 := heap_lt RX.out
  have f1 := cell_of_row w2 _ 1 _ _ _ RX.out
  simp only [List.getElem?_toArray, List.getElem?_cons_zero, List.getElem?_cons_succ] at f1
  clear hb hd SR
  cases t1
  · go_wp2_with fail
    refine (give_any A2 c2 (x / 2 ^ k) false _ (G2.out.below (below1 _ _)) (by omega)).mono ?_
    rintro e v9 ⟨A9, c9, rfl, hd, hb⟩
    have KA := Lib.hid (K2.out.trans (((below1 _ _).trans (hb.mono (by simp))).mono K2.out.size))
    have G9 := Lib.hid hd
    have HO := Lib.hid (off_row (g := w.heap.size + 1) hd KA.out HR0.out noint2')
    have q0 := row_cell HR0.out KA.out 0
    have q1 := row_cell HR0.out KA.out 1
    have p0 := row_frozen HR0.out KA.out 0
    have p1 := row_frozen HR0.out KA.out 1
    simp only [List.getElem?_toArray, List.getElem?_cons_zero, List.getElem?_cons_succ] at q0 q1
    clear hb hd
    go_wp2
    refine bodyPost_ret (v := .tuple #[.agg #[.bool (false && decide ((x / 2 ^ k) ≠ 0)), .slice A9 (digs (x / 2 ^ k)).length c9], .bool true]) (by simp [results, Tryd.results35, go_sem, q0, q1]) rfl ?_
    exact zb_give (by rw [sg_dn_pos, E1.out]) ((G9.out.set_off HO.out _ _).set_off HO.out _ _) ((((HB0.out.trans (KA.out.mono HB0.out.size)).setCell (by simp <;> omega) _).setCell (by simp <;> omega) _))
  · go_wp2_with fail
    refine (SL.out A2 c2 _ (G2.out.below (below1 _ _))).mono ?_
    rintro e w3 ⟨A3, c3, rfl, hd, hb⟩
    have K3 := Lib.hid (K2.out.trans (((below1 _ _).trans (hb.mono (by simp))).mono K2.out.size))
    have RM := Lib.hid (cells_of (heap_alloc_new w2 (.cells #[.slice A2 (digs (x / 2 ^ k)).length c2] 57)) hb)
    have RX3 := Lib.hid (cells_of (cells_of RX.out (below1 w2 (.cells #[.slice A2 (digs (x / 2 ^ k)).length c2] 57))) hb)
    have G3 := Lib.hid hd
    have G1c := Lib.hid ((G1b.out.below (below1 w2 (.cells #[.slice A2 (digs (x / 2 ^ k)).length c2] 57))).below hb)
    have G2c := Lib.hid ((G2.out.below (below1 w2 (.cells #[.slice A2 (digs (x / 2 ^ k)).length c2] 57))).below hb)
    have z3 := heap_lt RM.out
    clear hb hd SL f1
    have f1 := cell_of_row w3 _ 0 _ _ _ RX3.out
    have f2 := cell_of_row w3 _ 1 _ _ _ RX3.out
    have f3 := cell_of_row w3 _ 0 _ _ _ RM.out
    simp only [List.getElem?_toArray, List.getElem?_cons_zero, List.getElem?_cons_succ] at f1 f2 f3
    go_wp2_with fail
    obtain ⟨q3, hq3⟩ : ∃ q3, cmpi x (x / 2 ^ k * 2 ^ k) = q3 := ⟨_, rfl⟩
    have HQ := Lib.hid hq3
    refine (against_any A1 A3 c1 c3 x (x / 2 ^ k * 2 ^ k) q3 _ G1c.out G3.out (by omega) (by omega) hq3).mono ?_
    rintro e w4 ⟨rfl, hb⟩
    have K4 := Lib.hid (K3.out.trans (hb.mono K3.out.size))
    have RM4 := Lib.hid (cells_of RM.out hb)
    have RX4 := Lib.hid (cells_of RX3.out hb)
    have G2d := Lib.hid (G2c.out.below hb)
    have z4 := heap_lt RM4.out
    clear hb hq3 f1 f2 f3
    have f1 := cell_of_row w4 _ 1 _ _ _ RX4.out
    have f2 := cell_of_row w4 _ 0 _ _ _ RM4.out
    simp only [List.getElem?_toArray, List.getElem?_cons_zero, List.getElem?_cons_succ] at f1 f2
    by_cases hw : x = x / 2 ^ k * 2 ^ k
    · have e3 : q3 = 0 := by rw [← HQ.out]; exact cmpi_eq hw
      have HWH := Lib.hid hw
      subst e3
      clear hw
      go_wp2_with fail
      refine (give_any A2 c2 (x / 2 ^ k) true _ G2d.out (by omega)).mono ?_
      rintro e v9 ⟨A9, c9, rfl, hd, hb⟩
      have KA := Lib.hid (K4.out.trans (hb.mono K4.out.size))
      have G9 := Lib.hid hd
      have HO := Lib.hid (off_row (g := w.heap.size + 1) hd KA.out HR0.out noint2')
      have q0 := row_cell HR0.out KA.out 0
      have q1 := row_cell HR0.out KA.out 1
      have p0 := row_frozen HR0.out KA.out 0
      have p1 := row_frozen HR0.out KA.out 1
      simp only [List.getElem?_toArray, List.getElem?_cons_zero, List.getElem?_cons_succ] at q0 q1
      clear hb hd
      go_wp2
      refine bodyPost_ret (v := .tuple #[.agg #[.bool (true && decide ((x / 2 ^ k) ≠ 0)), .slice A9 (digs (x / 2 ^ k)).length c9], .bool true]) (by simp [results, Tryd.results35, go_sem, q0, q1]) rfl ?_
      exact zb_give (by rw [sg_dn_whole HWH.out, E1.out]) ((G9.out.set_off HO.out _ _).set_off HO.out _ _) ((((HB0.out.trans (KA.out.mono HB0.out.size)).setCell (by simp <;> omega) _).setCell (by simp <;> omega) _))
    · have e3 : ((q3 : Int) != 0) = true := by have := cmpi_three x (x / 2 ^ k * 2 ^ k); rw [HQ.out] at this; simp; omega
      have HWH := Lib.hid hw
      clear hw
      have b3 := digs_add_len (x / 2 ^ k) 1
      have b5 : (digs 1).length ≤ 1 := by rw [digs_one (by omega) (by omega)]; simp
      go_wp2_with fail
      refine (more_any A2 c2 (x / 2 ^ k) _ G2d.out (by omega)).mono ?_
      rintro e w5 ⟨A5, c5, rfl, hd, hb⟩
      have K5 := Lib.hid (K4.out.trans (hb.mono K4.out.size))
      have RM5 := Lib.hid (cells_of RM4.out hb)
      have RX5 := Lib.hid (cells_of RX4.out hb)
      have o5 := frozen_of_row w5 _ 0 _ _ RM5.out
      have HOM := Lib.hid (off_row hd hb RM4.out noint1)
      have G5 := Lib.hid hd
      have z5 := heap_lt RM5.out
      clear hb hd f1 f2
      have f1 := cell_of_row w5 _ 1 _ _ _ RX5.out
      have f2 := cell_of_row w5 _ 0 _ _ _ RM5.out
      simp only [List.getElem?_toArray, List.getElem?_cons_zero, List.getElem?_cons_succ] at f1 f2
      have zz : w1.heap.size ≠ w2.heap.size := by omega
      go_wp2_with fail
      refine (give_any A5 c5 (x / 2 ^ k + 1) true _ (G5.out.set_off HOM.out _ _) (by omega)).mono ?_
      rintro e v9 ⟨A9, c9, rfl, hd, hb⟩
      have KA := Lib.hid ((K5.out.setCell (by simp; omega) _).trans (hb.mono (by have := K5.out.size; simp; omega)))
      have G9 := Lib.hid hd
      have HO := Lib.hid (off_row (g := w.heap.size + 1) hd KA.out HR0.out noint2')
      have q0 := row_cell HR0.out KA.out 0
      have q1 := row_cell HR0.out KA.out 1
      have p0 := row_frozen HR0.out KA.out 0
      have p1 := row_frozen HR0.out KA.out 1
      simp only [List.getElem?_toArray, List.getElem?_cons_zero, List.getElem?_cons_succ] at q0 q1
      clear hb hd
      go_wp2
      refine bodyPost_ret (v := .tuple #[.agg #[.bool (true && decide ((x / 2 ^ k + 1) ≠ 0)), .slice A9 (digs (x / 2 ^ k + 1)).length c9], .bool true]) (by simp [results, Tryd.results35, go_sem, q0, q1]) rfl ?_
      exact zb_give (by rw [sg_dn_more HWH.out, E1.out]) ((G9.out.set_off HO.out _ _).set_off HO.out _ _) ((((HB0.out.trans (KA.out.mono HB0.out.size)).setCell (by simp <;> omega) _).setCell (by simp <;> omega) _))
end Go.Proofs.YthgkdpfkaobgoaaDoor
end

section
/-
  astrolaberef04's Shift.
-/
namespace Go.Proofs.YthgkdpfkaobgoaaDoor
open Go.RowKit
set_option maxHeartbeats 4000000 in
set_option maxRecDepth 100000 in
theorem rzshift_no (A : Option Addr) (c : Nat) (s : Bool) (xs : List Nat) (n : Int) (w : World) (hn : n < -100000 ∨ 100000 < n) :
    Calls Tryd.prog 36 #[.agg #[.bool s, .slice A xs.length c], .int .i64 n] w fun e w' => e = .returned (.tuple #[.agg #[.bool false, .slice none 0 0], .bool false]) ∧ Below w.heap.size w w' := by
  by_cases h0 : n < -100000
  · have d0 : decide (n < -100000) = true := by simp [h0]
    go_enter Tryd.func36, Tryd.ntmps36
    go_wp2
    refine bodyPost_ret (v := .tuple #[.agg #[.bool false, .slice none 0 0], .bool false]) (by simp [results, Tryd.results36, go_sem]) rfl ⟨rfl, ?_⟩
    exact below2 w _ _
  · have d0 : decide (n < -100000) = false := by simp; omega
    have d1 : decide (100000 < n) = true := by simp; omega
    go_enter Tryd.func36, Tryd.ntmps36
    go_wp2
    refine bodyPost_ret (v := .tuple #[.agg #[.bool false, .slice none 0 0], .bool false]) (by simp [results, Tryd.results36, go_sem]) rfl ⟨rfl, ?_⟩
    exact below2 w _ _
set_option maxHeartbeats 4000000 in
set_option maxRecDepth 100000 in
theorem rzshift_up (A : Option Addr) (c : Nat) (s : Bool) (xs : List Nat) (k : Nat) (w : World) (h : Dg w A c xs) (hl : xs.length ≤ 100000) (hk : k ≤ 100000) :
    Calls Tryd.prog 36 #[.agg #[.bool s, .slice A xs.length c], .int .i64 (k : Int)] w fun e w' => Zb (sg s (val xs) * 2 ^ k) w e w' := by
  have l1 := digs_len_le h.2.1
  have TA := Lib.hid (fun W h => rmake_any A c s xs W h (by omega))
  have a1 := sg_abs s (val xs)
  rw [← a1] at l1
  clear a1
  obtain ⟨Z, hZ⟩ : ∃ Z, sg s (val xs) = Z := ⟨_, rfl⟩
  rw [hZ] at TA l1
  rw [hZ]
  clear hZ
  simp only [Zr] at TA
  obtain ⟨t1, ht1⟩ : ∃ t, decide (Z < 0) = t := ⟨_, rfl⟩
  rw [ht1] at TA
  have E1 := Lib.hid (show sg t1 Z.natAbs = Z by rw [← ht1]; have := sg_dec Z; rwa [val_digs] at this)
  clear ht1
  obtain ⟨x, hx⟩ : ∃ x, Z.natAbs = x := ⟨_, rfl⟩
  rw [hx] at TA E1 l1
  clear hx
  have d0 : decide ((k : Int) < -100000) = false := decide_eq_false (by omega)
  have d1 : decide ((100000 : Int) < (k : Int)) = false := decide_eq_false (by omega)
  have d2 : decide ((0 : Int) ≤ (k : Int)) = true := by simp
  have b1 : (digs (x * 2 ^ k)).length ≤ (digs x).length + 3126 := by have := digs_shl_len x k; omega
  have SH := Lib.hid (fun A1 c1 W h => rshl_any A1 c1 (digs x) k W h (by omega) hk)
  simp only [val_digs] at SH
  clear hk
  go_enter Tryd.func36, Tryd.ntmps36
  go_upto_region 3 with fail
  have HB0 := Lib.hid (below2 w (.cells #[.bool s, .slice A xs.length c] 24) (.cells #[.bool false, .slice none 0 0] 24))
  obtain ⟨W, hW⟩ : ∃ W : World, W = (w.alloc (.cells #[.bool s, .slice A xs.length c] 24)).alloc (.cells #[.bool false, .slice none 0 0] 24) := ⟨_, rfl⟩
  have f1 : W.cell? ⟨w.heap.size, 0, none⟩ = some (.bool s) := by rw [hW]; go_simp
  have f2 : W.cell? ⟨w.heap.size, 1, none⟩ = some (.slice A xs.length c) := by rw [hW]; go_simp
  have HR0 := Lib.hid (show W.heap[w.heap.size + 1]? = some (.cells #[.bool false, .slice none 0 0] 24 (0, 0)) by rw [hW]; have := heap_alloc_new (w.alloc (.cells #[.bool s, .slice A xs.length c] 24)) (.cells #[.bool false, .slice none 0 0] 24); simpa using this)
  rw [← hW] at HB0
  rw [← hW]
  have H1 := Lib.hid (h.below HB0.out)
  have hsz : W.heap.size = w.heap.size + 2 := by rw [hW]; simp
  clear hW h
  go_wp2_with fail
  refine (TA.out _ H1.out).mono ?_
  rintro e w1 ⟨A1, c1, rfl, hd, hb⟩
  have K1 := Lib.hid hb
  have G1 := Lib.hid hd
  have z1 := hb.size
  clear hb hd f1 f2 TA
  go_wp2_with fail
  refine (SH.out A1 c1 _ (G1.out.below (below1 _ _))).mono ?_
  rintro e w2 ⟨A2, c2, rfl, hd, hb⟩
  have K2 := Lib.hid (K1.out.trans (((below1 _ _).trans (hb.mono (by simp))).mono K1.out.size))
  have RX := Lib.hid (cells_of (heap_alloc_new w1 (.cells #[.bool t1, .slice A1 (digs x).length c1] 24)) hb)
  have G2 := Lib.hid hd
  have z2 := heap_lt RX.out
  have f1 := cell_of_row w2 _ 0 _ _ _ RX.out
  simp only [List.getElem?_toArray, List.getElem?_cons_zero] at f1
  clear hb hd SH
  go_wp2_with fail
  refine (rmake_d A2 c2 (x * 2 ^ k) t1 _ G2.out (by omega)).mono ?_
  rintro e v9 ⟨A9, c9, rfl, hd, hb⟩
  have KA := Lib.hid (K2.out.trans (hb.mono K2.out.size))
  have G9 := Lib.hid hd
  have HO := Lib.hid (off_row (g := w.heap.size + 1) hd KA.out HR0.out noint2')
  have q0 := row_cell HR0.out KA.out 0
  have q1 := row_cell HR0.out KA.out 1
  have p0 := row_frozen HR0.out KA.out 0
  have p1 := row_frozen HR0.out KA.out 1
  simp only [List.getElem?_toArray, List.getElem?_cons_zero, List.getElem?_cons_succ] at q0 q1
  clear hb hd
  go_wp2
  refine bodyPost_ret (v := .tuple #[.agg #[.bool (t1 && decide ((x * 2 ^ k) ≠ 0)), .slice A9 (digs (x * 2 ^ k)).length c9], .bool true]) (by simp [results, Tryd.results36, go_sem, q0, q1]) rfl ?_
  exact zb_give (by rw [sg_up, E1.out]) ((G9.out.set_off HO.out _ _).set_off HO.out _ _) ((((HB0.out.trans (KA.out.mono HB0.out.size)).setCell (by simp <;> omega) _).setCell (by simp <;> omega) _))
set_option maxHeartbeats 4000000 in
set_option maxRecDepth 100000 in
theorem rzshift_down (A : Option Addr) (c : Nat) (s : Bool) (xs : List Nat) (k : Nat) (n : Int) (w : World) (h : Dg w A c xs) (hl : xs.length ≤ 100000) (h0 : 0 < k) (hk : k ≤ 100000) (hn : n = -(k : Int)) :
    Calls Tryd.prog 36 #[.agg #[.bool s, .slice A xs.length c], .int .i64 n] w fun e w' => Zb (sg s (val xs) / 2 ^ k) w e w' := by
  have l1 := digs_len_le h.2.1
  have TA := Lib.hid (fun W h => rmake_any A c s xs W h (by omega))
  have a1 := sg_abs s (val xs)
  rw [← a1] at l1
  clear a1
  obtain ⟨Z, hZ⟩ : ∃ Z, sg s (val xs) = Z := ⟨_, rfl⟩
  rw [hZ] at TA l1
  rw [hZ]
  clear hZ
  simp only [Zr] at TA
  obtain ⟨t1, ht1⟩ : ∃ t, decide (Z < 0) = t := ⟨_, rfl⟩
  rw [ht1] at TA
  have E1 := Lib.hid (show sg t1 Z.natAbs = Z by rw [← ht1]; have := sg_dec Z; rwa [val_digs] at this)
  clear ht1
  obtain ⟨x, hx⟩ : ∃ x, Z.natAbs = x := ⟨_, rfl⟩
  rw [hx] at TA E1 l1
  clear hx
  have d0 : decide (n < -100000) = false := decide_eq_false (by omega)
  have d1 : decide (100000 < n) = false := decide_eq_false (by omega)
  have d2 : decide (0 ≤ n) = false := decide_eq_false (by omega)
  have b1 := digs_len_mono _ _ (Nat.div_le_self x (2 ^ k))
  have b2 : (digs (x / 2 ^ k * 2 ^ k)).length ≤ (digs (x / 2 ^ k)).length + 3126 := by have := digs_shl_len (x / 2 ^ k) k; omega
  have SR := Lib.hid (fun A1 c1 W h => rshr_any A1 c1 (digs x) k W h (by omega) (by omega))
  simp only [val_digs] at SR
  have SL := Lib.hid (fun A1 c1 W h => rshl_any A1 c1 (digs (x / 2 ^ k)) k W h (by omega) hk)
  simp only [val_digs] at SL
  have nn : -n = (k : Int) := by omega
  have n0 : -100000 ≤ n := by omega
  have n1 : n < 0 := by omega
  clear h0 hk hn
  go_enter Tryd.func36, Tryd.ntmps36
  go_upto_region 3 with fail
  have HB0 := Lib.hid (below2 w (.cells #[.bool s, .slice A xs.length c] 24) (.cells #[.bool false, .slice none 0 0] 24))
  obtain ⟨W, hW⟩ : ∃ W : World, W = (w.alloc (.cells #[.bool s, .slice A xs.length c] 24)).alloc (.cells #[.bool false, .slice none 0 0] 24) := ⟨_, rfl⟩
  have f1 : W.cell? ⟨w.heap.size, 0, none⟩ = some (.bool s) := by rw [hW]; go_simp
  have f2 : W.cell? ⟨w.heap.size, 1, none⟩ = some (.slice A xs.length c) := by rw [hW]; go_simp
  have HR0 := Lib.hid (show W.heap[w.heap.size + 1]? = some (.cells #[.bool false, .slice none 0 0] 24 (0, 0)) by rw [hW]; have := heap_alloc_new (w.alloc (.cells #[.bool s, .slice A xs.length c] 24)) (.cells #[.bool false, .slice none 0 0] 24); simpa using this)
  rw [← hW] at HB0
  rw [← hW]
  have H1 := Lib.hid (h.below HB0.out)
  have hsz : W.heap.size = w.heap.size + 2 := by rw [hW]; simp
  clear hW h
  go_wp2_with fail
  refine (TA.out _ H1.out).mono ?_
  rintro e w1 ⟨A1, c1, rfl, hd, hb⟩
  have K1 := Lib.hid hb
  have G1 := Lib.hid hd
  have z1 := hb.size
  clear hb hd f1 f2 TA
  go_wp2_with fail
  refine (SR.out A1 c1 _ (G1.out.below (below1 _ _))).mono ?_
  rintro e w2 ⟨A2, c2, rfl, hd, hb⟩
  have K2 := Lib.hid (K1.out.trans (((below1 _ _).trans (hb.mono (by simp))).mono K1.out.size))
  have RX := Lib.hid (cells_of (heap_alloc_new w1 (.cells #[.bool t1, .slice A1 (digs x).length c1] 24)) hb)
  have G2 := Lib.hid hd
  have G1b := Lib.hid ((G1.out.below (below1 w1 (.cells #[.bool t1, .slice A1 (digs x).length c1] 24))).below hb)
  have z2 := heap_lt RX.out
  clear hb hd SR
  go_wp2_with fail
  refine (SL.out A2 c2 _ G2.out).mono ?_
  rintro e w3 ⟨A3, c3, rfl, hd, hb⟩
  have K3 := Lib.hid (K2.out.trans (hb.mono K2.out.size))
  have RX3 := Lib.hid (cells_of RX.out hb)
  have G3 := Lib.hid hd
  have G1c := Lib.hid (G1b.out.below hb)
  have G2c := Lib.hid (G2.out.below hb)
  have z3 := heap_lt RX3.out
  clear hb hd SL
  have f1 := cell_of_row w3 _ 0 _ _ _ RX3.out
  have f2 := cell_of_row w3 _ 1 _ _ _ RX3.out
  simp only [List.getElem?_toArray, List.getElem?_cons_zero, List.getElem?_cons_succ] at f1 f2
  cases t1
  · go_wp2_with fail
    refine (rmake_d A2 c2 (x / 2 ^ k) false _ G2c.out (by omega)).mono ?_
    rintro e v9 ⟨A9, c9, rfl, hd, hb⟩
    have KA := Lib.hid (K3.out.trans (hb.mono K3.out.size))
    have G9 := Lib.hid hd
    have HO := Lib.hid (off_row (g := w.heap.size + 1) hd KA.out HR0.out noint2')
    have q0 := row_cell HR0.out KA.out 0
    have q1 := row_cell HR0.out KA.out 1
    have p0 := row_frozen HR0.out KA.out 0
    have p1 := row_frozen HR0.out KA.out 1
    simp only [List.getElem?_toArray, List.getElem?_cons_zero, List.getElem?_cons_succ] at q0 q1
    clear hb hd
    go_wp2
    refine bodyPost_ret (v := .tuple #[.agg #[.bool (false && decide ((x / 2 ^ k) ≠ 0)), .slice A9 (digs (x / 2 ^ k)).length c9], .bool true]) (by simp [results, Tryd.results36, go_sem, q0, q1]) rfl ?_
    exact zb_give (by rw [sg_dn_pos, E1.out]) ((G9.out.set_off HO.out _ _).set_off HO.out _ _) ((((HB0.out.trans (KA.out.mono HB0.out.size)).setCell (by simp <;> omega) _).setCell (by simp <;> omega) _))
  · go_wp2_with fail
    obtain ⟨q3, hq3⟩ : ∃ q3, cmpi (x / 2 ^ k * 2 ^ k) x = q3 := ⟨_, rfl⟩
    have HQ := Lib.hid hq3
    have RC := Lib.hid (rcmp_any A3 A1 c3 c1 (digs (x / 2 ^ k * 2 ^ k)) (digs x) w3 G3.out G1c.out (by omega) (by omega))
    simp only [val_digs, hq3] at RC
    clear hq3
    refine RC.out.mono ?_
    rintro e w4 ⟨rfl, rfl⟩
    by_cases hw : x = x / 2 ^ k * 2 ^ k
    · have e3 : q3 = 0 := by rw [← HQ.out]; exact cmpi_eq hw.symm
      have HWH := Lib.hid hw
      subst e3
      clear hw RC
      go_wp2_with fail
      refine (rmake_d A2 c2 (x / 2 ^ k) true _ G2c.out (by omega)).mono ?_
      rintro e v9 ⟨A9, c9, rfl, hd, hb⟩
      have KA := Lib.hid (K3.out.trans (hb.mono K3.out.size))
      have G9 := Lib.hid hd
      have HO := Lib.hid (off_row (g := w.heap.size + 1) hd KA.out HR0.out noint2')
      have q0 := row_cell HR0.out KA.out 0
      have q1 := row_cell HR0.out KA.out 1
      have p0 := row_frozen HR0.out KA.out 0
      have p1 := row_frozen HR0.out KA.out 1
      simp only [List.getElem?_toArray, List.getElem?_cons_zero, List.getElem?_cons_succ] at q0 q1
      clear hb hd
      go_wp2
      refine bodyPost_ret (v := .tuple #[.agg #[.bool (true && decide ((x / 2 ^ k) ≠ 0)), .slice A9 (digs (x / 2 ^ k)).length c9], .bool true]) (by simp [results, Tryd.results36, go_sem, q0, q1]) rfl ?_
      exact zb_give (by rw [sg_dn_whole HWH.out, E1.out]) ((G9.out.set_off HO.out _ _).set_off HO.out _ _) ((((HB0.out.trans (KA.out.mono HB0.out.size)).setCell (by simp <;> omega) _).setCell (by simp <;> omega) _))
    · have e3 : ((q3 : Int) != 0) = true := by have := cmpi_three (x / 2 ^ k * 2 ^ k) x; rw [HQ.out] at this; simp; omega
      have HWH := Lib.hid hw
      clear hw RC
      have dd := digs_one (a := 1) (by omega) (by omega)
      have b3 := digs_add_len (x / 2 ^ k) 1
      have b5 : (digs 1).length ≤ 1 := by rw [dd]; simp
      have AD := Lib.hid (fun (g : Nat) (V : World) (h1 : Dg V A2 c2 (digs (x / 2 ^ k))) (h2 : Dg V (some ⟨g, 0, none⟩) 1 [1]) => radd_any A2 (some ⟨g, 0, none⟩) c2 1 (digs (x / 2 ^ k)) (digs 1) V h1 (by rw [dd]; exact h2) (by omega) (by omega))
      simp only [val_digs, dd] at AD
      clear dd
      go_wp2_with fail
      have HN := Lib.hid (Live.get (A := some ⟨w3.heap.size, 0, none⟩) (c := 1) (xs := [1]) ((live_start w3).new1 1 1 rfl (by omega)) (by simp))
      refine (AD.out w3.heap.size _ (G2c.out.below (below1 _ _)) HN.out).mono ?_
      rintro e w5 ⟨A5, c5, rfl, hd, hb⟩
      have K5 := Lib.hid (K3.out.trans (((below1 _ _).trans (hb.mono (by simp))).mono K3.out.size))
      have RX5 := Lib.hid (cells_of (cells_of RX3.out (below1 w3 (.cells #[.int .u32 1] 75))) hb)
      have G5 := Lib.hid hd
      have z5 := heap_lt RX5.out
      clear hb hd f1 f2 AD
      have f1 := cell_of_row w5 _ 0 _ _ _ RX5.out
      simp only [List.getElem?_toArray, List.getElem?_cons_zero] at f1
      go_wp2_with fail
      refine (rmake_d A5 c5 (x / 2 ^ k + 1) true _ G5.out (by omega)).mono ?_
      rintro e v9 ⟨A9, c9, rfl, hd, hb⟩
      have KA := Lib.hid (K5.out.trans (hb.mono K5.out.size))
      have G9 := Lib.hid hd
      have HO := Lib.hid (off_row (g := w.heap.size + 1) hd KA.out HR0.out noint2')
      have q0 := row_cell HR0.out KA.out 0
      have q1 := row_cell HR0.out KA.out 1
      have p0 := row_frozen HR0.out KA.out 0
      have p1 := row_frozen HR0.out KA.out 1
      simp only [List.getElem?_toArray, List.getElem?_cons_zero, List.getElem?_cons_succ] at q0 q1
      clear hb hd
      go_wp2
      refine bodyPost_ret (v := .tuple #[.agg #[.bool (true && decide ((x / 2 ^ k + 1) ≠ 0)), .slice A9 (digs (x / 2 ^ k + 1)).length c9], .bool true]) (by simp [results, Tryd.results36, go_sem, q0, q1]) rfl ?_
      exact zb_give (by rw [sg_dn_more HWH.out, E1.out]) ((G9.out.set_off HO.out _ _).set_off HO.out _ _) ((((HB0.out.trans (KA.out.mono HB0.out.size)).setCell (by simp <;> omega) _).setCell (by simp <;> omega) _))
end Go.Proofs.YthgkdpfkaobgoaaDoor
end

section
/-
  DERIVED: THE SHELF's CONTRACTS AT THIS DUMP, IN PLAIN WORDS (tools/lay-plain.mjs out of the shelf's text): THE SAME DECLARATIONS UNDER THE SAME NAMES: 'import', 'namespace', 'open', 'def', 'theorem' AND NOTHING ELSE: no command of the shelf's: FOR A HAND-IN. Each laying: the table of numbers ('.._ren') and one theorem, a field a fact of the dump's own or the kernel's comparison; each contract: ONE APPLICATION.
-/
namespace Go.Proofs
open Go.Shelf
def Tryd.lays170_ren : Go.Shelf.Ren := ⟨fun | 170 => 91 | n => n, fun | 70 => 99 | 3 => 3 | 0 => 0 | 72 => 101 | 37 => 81 | 5 => 5 | n => n, fun | n => n⟩
theorem Tryd.lays170 : Go.Proofs.Lays.n170 Tryd.prog Tryd.lays170_ren := {
  mixed := by kernel_rfl
  f170 := Tryd.func91.trans (congrArg some (by kernel_rfl))
  t0 := Tryd.underlying0
  a0 := Tryd.isAgg0
  z0 := Tryd.sizeOf0
  v0 := Tryd.zeroValue0
  t3 := Tryd.underlying3
  a3 := Tryd.isAgg3
  z3 := Tryd.sizeOf3
  v3 := Tryd.zeroValue3
  t37 := Tryd.underlying81
  a37 := Tryd.isAgg81
  z37 := Tryd.sizeOf81
  v37 := Tryd.zeroValue81
  t70 := Tryd.underlying99
  a70 := Tryd.isAgg99
  z70 := Tryd.sizeOf99
  v70 := Tryd.zeroValue99
  t72 := Tryd.underlying101
  a72 := Tryd.isAgg101
  z72 := Tryd.sizeOf101
  v72 := Tryd.zeroValue101 }
open Go.RowKit in
/-- (*strings.Builder).Len: "Len returns the number of accumulated bytes; b.Len() == len(b.String()).": the world is as it was. (LAID: no walk: one application.) -/
theorem Tryd.Builder_Len (B b : Nat) (bs : List Value) (w : World) (h : Lib.IsBuilder 101 5 B b bs w) :
    Calls Tryd.prog 91 #[.pointer (some ⟨b, 0, none⟩)] w fun e w' => e = .returned (.int .i64 bs.length) ∧ w' = w := Any.Builder_Len Tryd.lays170 B b bs w h
def Tryd.lays169_ren : Go.Shelf.Ren := ⟨fun | 169 => 92 | n => n, fun | 70 => 99 | 9 => 9 | 0 => 0 | 72 => 101 | 37 => 81 | 127 => 124 | 3 => 3 | 5 => 5 | n => n, fun | n => n⟩
theorem Tryd.lays169 : Go.Proofs.Lays.n169 Tryd.prog Tryd.lays169_ren := {
  mixed := by kernel_rfl
  f169 := Tryd.func92.trans (congrArg some (by kernel_rfl))
  t0 := Tryd.underlying0
  a0 := Tryd.isAgg0
  z0 := Tryd.sizeOf0
  v0 := Tryd.zeroValue0
  t3 := Tryd.underlying3
  a3 := Tryd.isAgg3
  z3 := Tryd.sizeOf3
  v3 := Tryd.zeroValue3
  t9 := Tryd.underlying9
  a9 := Tryd.isAgg9
  z9 := Tryd.sizeOf9
  v9 := Tryd.zeroValue9
  t37 := Tryd.underlying81
  a37 := Tryd.isAgg81
  z37 := Tryd.sizeOf81
  v37 := Tryd.zeroValue81
  t70 := Tryd.underlying99
  a70 := Tryd.isAgg99
  z70 := Tryd.sizeOf99
  v70 := Tryd.zeroValue99
  t72 := Tryd.underlying101
  a72 := Tryd.isAgg101
  z72 := Tryd.sizeOf101
  v72 := Tryd.zeroValue101
  t127 := Tryd.underlying124
  a127 := Tryd.isAgg124
  z127 := Tryd.sizeOf124
  v127 := Tryd.zeroValue124 }
theorem Tryd.Builder_Extra_169 : Builder.Extra Tryd.prog Tryd.lays169_ren := {
  sizeBuilder := by kernel_rfl
  liesBuilder := by kernel_rfl
  t5 := Tryd.underlying5
  a5 := Tryd.isAgg5
  z5 := Tryd.sizeOf5
  v5 := Tryd.zeroValue5
  infoByte := by kernel_rfl
  cellsByte := by kernel_rfl
  sizeByte := by kernel_rfl
  neB5 := by decide }
open Go.RowKit in
/-- (*strings.Builder).String: "String returns the accumulated string.": OF A BUILDER THAT HOLDS AT LEAST ONE BYTE. ✋ THE MODEL FREEZES THOSE BYTES IN THE BUFFER (unsafe.String): a later write INTO them ends the model's run without an answer; a later append BEHIND them goes on. The statement's order of evaluation is drawn: one draw. (LAID: no walk: one application.) -/
theorem Tryd.Builder_String (B b : Nat) (l : List UInt8) (w : World) (h : Lib.IsBuilder 101 5 B b (Lib.byteCells l) w) (h0 : l ≠ []) :
    Calls Tryd.prog 92 #[.pointer (some ⟨b, 0, none⟩)] w fun e w' => e = .returned (.string ⟨l.toArray⟩) ∧ Below B w w' := Any.Builder_String Tryd.lays169 Tryd.Builder_Extra_169 B b l w h h0
open Go.RowKit in
/-- (*strings.Builder).String OF A BUILDER THAT HOLDS NO BYTE: the empty string. (Its buffer is nil, or a row of which it has taken nothing yet; where that row has NO capacity the model lays one new block for unsafe.SliceData's 'some address'.) One draw. (LAID: no walk: one application.) -/
theorem Tryd.Builder_String_empty (B b : Nat) (w : World) (h : Lib.IsBuilder 101 5 B b [] w) (hBw : B ≤ w.heap.size) :
    Calls Tryd.prog 92 #[.pointer (some ⟨b, 0, none⟩)] w fun e w' => e = .returned (.string ⟨#[]⟩) ∧ Below B w w' := Any.Builder_String_empty Tryd.lays169 Tryd.Builder_Extra_169 B b w h hBw
open Go.RowKit in
/-- (*strings.Builder).String: "String returns the accumulated string.": WHATEVER THE BUILDER HOLDS. (LAID: no walk: one application.) -/
theorem Tryd.Builder_String_any (B b : Nat) (l : List UInt8) (w : World) (h : Lib.IsBuilder 101 5 B b (Lib.byteCells l) w) (hBw : B ≤ w.heap.size) :
    Calls Tryd.prog 92 #[.pointer (some ⟨b, 0, none⟩)] w fun e w' => e = .returned (.string ⟨l.toArray⟩) ∧ Below B w w' := Any.Builder_String_any Tryd.lays169 Tryd.Builder_Extra_169 B b l w h hBw
def Tryd.lays241_ren : Go.Shelf.Ren := ⟨fun | 241 => 110 | 277 => 119 | n => n, fun | 70 => 99 | 3 => 3 | 0 => 0 | 72 => 101 | 37 => 81 | 5 => 5 | n => n, fun | n => n⟩
theorem Tryd.lays241 : Go.Proofs.Lays.n241 Tryd.prog Tryd.lays241_ren := {
  mixed := by kernel_rfl
  f241 := Tryd.func110.trans (congrArg some (by kernel_rfl))
  f277 := Tryd.func119.trans (congrArg some (by kernel_rfl))
  t0 := Tryd.underlying0
  a0 := Tryd.isAgg0
  z0 := Tryd.sizeOf0
  v0 := Tryd.zeroValue0
  t3 := Tryd.underlying3
  a3 := Tryd.isAgg3
  z3 := Tryd.sizeOf3
  v3 := Tryd.zeroValue3
  t37 := Tryd.underlying81
  a37 := Tryd.isAgg81
  z37 := Tryd.sizeOf81
  v37 := Tryd.zeroValue81
  t70 := Tryd.underlying99
  a70 := Tryd.isAgg99
  z70 := Tryd.sizeOf99
  v70 := Tryd.zeroValue99
  t72 := Tryd.underlying101
  a72 := Tryd.isAgg101
  z72 := Tryd.sizeOf101
  v72 := Tryd.zeroValue101 }
theorem Tryd.Builder_Extra_241 : Builder.Extra Tryd.prog Tryd.lays241_ren := {
  sizeBuilder := by kernel_rfl
  liesBuilder := by kernel_rfl
  t5 := Tryd.underlying5
  a5 := Tryd.isAgg5
  z5 := Tryd.sizeOf5
  v5 := Tryd.zeroValue5
  infoByte := by kernel_rfl
  cellsByte := by kernel_rfl
  sizeByte := by kernel_rfl
  neB5 := by decide }
open Go.RowKit in
/-- (*strings.Builder).grow (no doc but "grow copies the buffer to a new, larger buffer so that there are at least n bytes of capacity beyond len(b.buf)."): AT A BUILDER WITHOUT A BUFFER: a new row of whatever bytes for its buffer, none of them its own yet. Three draws. (LAID: no walk: one application.) -/
theorem Tryd.Builder_grow_fresh (B b n : Nat) (w : World) (hB : B ≤ b) (hbk : w.heap[b]? = some (.cells #[.pointer (some ⟨b, 0, none⟩), .slice none 0 0] 101 (0, 0))) (hBw : B ≤ w.heap.size) (hn : n ≤ 281474976710656) :
    Calls Tryd.prog 110 #[.pointer (some ⟨b, 0, none⟩), .int .i64 n] w fun e w' => e = .returned (.tuple #[]) ∧ (Lib.BuilderAt 101 5 B b (.pointer (some ⟨b, 0, none⟩)) [] w' ∧ Below B w w') := Any.Builder_grow_fresh Tryd.lays241 Tryd.Builder_Extra_241 B b n w hB hbk hBw hn
def Tryd.lays165_ren : Go.Shelf.Ren := ⟨fun | 165 => 89 | 240 => 109 | 241 => 110 | 276 => 118 | 277 => 119 | n => n, fun | 70 => 99 | 3 => 3 | 0 => 0 | 4 => 4 | 9 => 9 | 20 => 20 | 72 => 101 | 37 => 81 | 164 => 131 | 5 => 5 | n => n, fun | n => n⟩
theorem Tryd.lays165 : Go.Proofs.Lays.n165 Tryd.prog Tryd.lays165_ren := {
  mixed := by kernel_rfl
  f165 := Tryd.func89.trans (congrArg some (by kernel_rfl))
  f240 := Tryd.func109.trans (congrArg some (by kernel_rfl))
  f241 := Tryd.func110.trans (congrArg some (by kernel_rfl))
  f276 := Tryd.func118.trans (congrArg some (by kernel_rfl))
  f277 := Tryd.func119.trans (congrArg some (by kernel_rfl))
  t0 := Tryd.underlying0
  a0 := Tryd.isAgg0
  z0 := Tryd.sizeOf0
  v0 := Tryd.zeroValue0
  t3 := Tryd.underlying3
  a3 := Tryd.isAgg3
  z3 := Tryd.sizeOf3
  v3 := Tryd.zeroValue3
  t4 := Tryd.underlying4
  a4 := Tryd.isAgg4
  z4 := Tryd.sizeOf4
  v4 := Tryd.zeroValue4
  t9 := Tryd.underlying9
  a9 := Tryd.isAgg9
  z9 := Tryd.sizeOf9
  v9 := Tryd.zeroValue9
  t20 := Tryd.underlying20
  a20 := Tryd.isAgg20
  z20 := Tryd.sizeOf20
  v20 := Tryd.zeroValue20
  t37 := Tryd.underlying81
  a37 := Tryd.isAgg81
  z37 := Tryd.sizeOf81
  v37 := Tryd.zeroValue81
  t70 := Tryd.underlying99
  a70 := Tryd.isAgg99
  z70 := Tryd.sizeOf99
  v70 := Tryd.zeroValue99
  t72 := Tryd.underlying101
  a72 := Tryd.isAgg101
  z72 := Tryd.sizeOf101
  v72 := Tryd.zeroValue101
  t164 := Tryd.underlying131
  a164 := Tryd.isAgg131
  z164 := Tryd.sizeOf131
  v164 := Tryd.zeroValue131 }
theorem Tryd.Builder_Extra_165 : Builder.Extra Tryd.prog Tryd.lays165_ren := {
  sizeBuilder := by kernel_rfl
  liesBuilder := by kernel_rfl
  t5 := Tryd.underlying5
  a5 := Tryd.isAgg5
  z5 := Tryd.sizeOf5
  v5 := Tryd.zeroValue5
  infoByte := by kernel_rfl
  cellsByte := by kernel_rfl
  sizeByte := by kernel_rfl
  neB5 := by decide }
open Go.RowKit in
/-- (*strings.Builder).Grow AT A BUILDER THAT HAS NOT BEEN WRITTEN ('var b strings.Builder; b.Grow(n)'): "Grow grows b's capacity, if necessary, to guarantee space for another n bytes.": it holds no byte behind it as before it. (LAID: no walk: one application.) -/
theorem Tryd.Builder_Grow_fresh (B b n : Nat) (w : World) (hB : B ≤ b) (hbk : w.heap[b]? = some (.cells #[.pointer none, .slice none 0 0] 101 (0, 0))) (hBw : B ≤ w.heap.size) (hn : n ≤ 281474976710656) :
    Calls Tryd.prog 89 #[.pointer (some ⟨b, 0, none⟩), .int .i64 n] w fun e w' => e = .returned (.tuple #[]) ∧ (Lib.BuilderAt 101 5 B b (.pointer (some ⟨b, 0, none⟩)) [] w' ∧ Below B w w') := Any.Builder_Grow_fresh Tryd.lays165 Tryd.Builder_Extra_165 B b n w hB hbk hBw hn
def Tryd.lays156_ren : Go.Shelf.Ren := ⟨fun | 156 => 73 | 165 => 89 | 166 => 90 | 169 => 92 | 240 => 109 | 241 => 110 | 276 => 118 | 277 => 119 | n => n, fun | 31 => 84 | 9 => 9 | 3 => 3 | 4 => 4 | 0 => 0 | 20 => 20 | 72 => 101 | 76 => 105 | 70 => 99 | 37 => 81 | 75 => 104 | 127 => 124 | 164 => 131 | 5 => 5 | 80 => 107 | n => n, fun | n => n⟩
theorem Tryd.lays156 : Go.Proofs.Lays.n156 Tryd.prog Tryd.lays156_ren := {
  mixed := by kernel_rfl
  f156 := Tryd.func73.trans (congrArg some (by kernel_rfl))
  f165 := Tryd.func89.trans (congrArg some (by kernel_rfl))
  f166 := Tryd.func90.trans (congrArg some (by kernel_rfl))
  f169 := Tryd.func92.trans (congrArg some (by kernel_rfl))
  f240 := Tryd.func109.trans (congrArg some (by kernel_rfl))
  f241 := Tryd.func110.trans (congrArg some (by kernel_rfl))
  f276 := Tryd.func118.trans (congrArg some (by kernel_rfl))
  f277 := Tryd.func119.trans (congrArg some (by kernel_rfl))
  t0 := Tryd.underlying0
  a0 := Tryd.isAgg0
  z0 := Tryd.sizeOf0
  v0 := Tryd.zeroValue0
  t3 := Tryd.underlying3
  a3 := Tryd.isAgg3
  z3 := Tryd.sizeOf3
  v3 := Tryd.zeroValue3
  t4 := Tryd.underlying4
  a4 := Tryd.isAgg4
  z4 := Tryd.sizeOf4
  v4 := Tryd.zeroValue4
  t9 := Tryd.underlying9
  a9 := Tryd.isAgg9
  z9 := Tryd.sizeOf9
  v9 := Tryd.zeroValue9
  t20 := Tryd.underlying20
  a20 := Tryd.isAgg20
  z20 := Tryd.sizeOf20
  v20 := Tryd.zeroValue20
  t31 := Tryd.underlying84
  a31 := Tryd.isAgg84
  z31 := Tryd.sizeOf84
  v31 := Tryd.zeroValue84
  t37 := Tryd.underlying81
  a37 := Tryd.isAgg81
  z37 := Tryd.sizeOf81
  v37 := Tryd.zeroValue81
  t70 := Tryd.underlying99
  a70 := Tryd.isAgg99
  z70 := Tryd.sizeOf99
  v70 := Tryd.zeroValue99
  t72 := Tryd.underlying101
  a72 := Tryd.isAgg101
  z72 := Tryd.sizeOf101
  v72 := Tryd.zeroValue101
  t75 := Tryd.underlying104
  a75 := Tryd.isAgg104
  z75 := Tryd.sizeOf104
  v75 := Tryd.zeroValue104
  t76 := Tryd.underlying105
  a76 := Tryd.isAgg105
  z76 := Tryd.sizeOf105
  v76 := Tryd.zeroValue105
  t127 := Tryd.underlying124
  a127 := Tryd.isAgg124
  z127 := Tryd.sizeOf124
  v127 := Tryd.zeroValue124
  t164 := Tryd.underlying131
  a164 := Tryd.isAgg131
  z164 := Tryd.sizeOf131
  v164 := Tryd.zeroValue131 }
theorem Tryd.Builder_Extra_156 : Builder.Extra Tryd.prog Tryd.lays156_ren := {
  sizeBuilder := by kernel_rfl
  liesBuilder := by kernel_rfl
  t5 := Tryd.underlying5
  a5 := Tryd.isAgg5
  z5 := Tryd.sizeOf5
  v5 := Tryd.zeroValue5
  infoByte := by kernel_rfl
  cellsByte := by kernel_rfl
  sizeByte := by kernel_rfl
  neB5 := by decide }
open Go.RowKit in
/-- No element: the empty string; the world is as it was. (Whatever the slice's address and capacity: a nil slice too.) (LAID: no walk: one application.) -/
theorem Tryd.strings_Join_none (a : Option Addr) (c : Nat) (sep : ByteArray) (w : World) :
    Calls Tryd.prog 73 #[.slice a 0 c, .string sep] w fun e w' => e = .returned (.string ⟨#[]⟩) ∧ w' = w := Any.strings_Join_none Tryd.lays156 Tryd.Builder_Extra_156 a c sep w
open Go.RowKit in
/-- strings.Join: "Join concatenates the elements of its first argument to create a single string. The separator string sep is placed between elements in the resulting string.": HOWEVER MANY ELEMENTS. Below the heap's end the world is as it was. (LAID: no walk: one application.) -/
theorem Tryd.strings_Join (bk o c : Nat) (xs : List ByteArray) (sep : ByteArray) (w : World) (hcells : ∀ (j : Nat) x, xs[j]? = some x → w.cell? ⟨bk, o + j, none⟩ = some (.string x)) (hbk : bk < w.heap.size) (hN : xs.length ≤ 140737488355328) (hcap : xs.length ≤ c) (hlen : (Lib.join (xs.map (·.data.toList)) sep.data.toList).length ≤ 140737488355328) :
    Calls Tryd.prog 73 #[.slice (some ⟨bk, o, none⟩) xs.length c, .string sep] w fun e w' => e = .returned (.string ⟨(Lib.join (xs.map (·.data.toList)) sep.data.toList).toArray⟩) ∧ Below w.heap.size w w' := Any.strings_Join Tryd.lays156 Tryd.Builder_Extra_156 bk o c xs sep w hcells hbk hN hcap hlen
def Tryd.lays128_ren : Go.Shelf.Ren := ⟨fun | 128 => 112 | n => n, fun | 51 => 75 | 3 => 3 | 4 => 4 | 46 => 82 | 5 => 5 | 9 => 9 | n => n, fun | n => n⟩
theorem Tryd.lays128 : Go.Proofs.Lays.n128 Tryd.prog Tryd.lays128_ren := {
  mixed := by kernel_rfl
  f128 := Tryd.func112.trans (congrArg some (by kernel_rfl))
  t3 := Tryd.underlying3
  a3 := Tryd.isAgg3
  z3 := Tryd.sizeOf3
  v3 := Tryd.zeroValue3
  t4 := Tryd.underlying4
  a4 := Tryd.isAgg4
  z4 := Tryd.sizeOf4
  v4 := Tryd.zeroValue4
  t5 := Tryd.underlying5
  a5 := Tryd.isAgg5
  z5 := Tryd.sizeOf5
  v5 := Tryd.zeroValue5
  t9 := Tryd.underlying9
  a9 := Tryd.isAgg9
  z9 := Tryd.sizeOf9
  v9 := Tryd.zeroValue9
  t46 := Tryd.underlying82
  a46 := Tryd.isAgg82
  z46 := Tryd.sizeOf82
  v46 := Tryd.zeroValue82
  t51 := Tryd.underlying75
  a51 := Tryd.isAgg75
  z51 := Tryd.sizeOf75
  v51 := Tryd.zeroValue75 }
/-- bits.Len32: "Len32 returns the minimum number of bits required to represent x; the result is 0 for x == 0.": IT RETURNS 'Lib.bitLen x'; the world is as it was. ('h0', 'h1': x is a uint32.) (LAID: no walk: one application.) -/
theorem Tryd.bits_Len32 (x : Int) (w : World) (h0 : 0 ≤ x) (h1 : x ≤ 4294967295) :
    Calls Tryd.prog 112 #[.int .u32 x] w fun e w' => e = .returned (.int .i64 (Lib.bitLen x.toNat)) ∧ w' = w := Any.bits_Len32 Tryd.lays128 x w h0 h1
open Go.RowKit in
/-- (*strings.Builder).Len: "Len returns the number of accumulated bytes; b.Len() == len(b.String()).": the world is as it was. (THE FORM '_f': 'Lib.IsBuilderF'.) (LAID: no walk: one application.) -/
theorem Tryd.Builder_Len_f (B b : Nat) (bs : List Value) (w : World) (h : Lib.IsBuilderF 101 5 B b bs w) :
    Calls Tryd.prog 91 #[.pointer (some ⟨b, 0, none⟩)] w fun e w' => e = .returned (.int .i64 bs.length) ∧ w' = w := Any.Builder_Len_f Tryd.lays170 B b bs w h
open Go.RowKit in
/-- (*strings.Builder).String: "String returns the accumulated string.": OF A BUILDER THAT HOLDS AT LEAST ONE BYTE. ✋ THE MODEL FREEZES THOSE BYTES IN THE BUFFER (unsafe.String): a later write INTO them ends the model's run without an answer; a later append BEHIND them goes on. The statement's order of evaluation is drawn: one draw. THE FORM '_f': IT SAYS BESIDES THAT THE BUILDER IS A BUILDER STILL ('Lib.IsBuilderF', the same bytes): SO IT CAN BE WRITTEN ON: 'b.WriteString(b.String()[:k])'. (LAID: no walk: one application.) -/
theorem Tryd.Builder_String_f (B b : Nat) (l : List UInt8) (w : World) (h : Lib.IsBuilderF 101 5 B b (Lib.byteCells l) w) (h0 : l ≠ []) :
    Calls Tryd.prog 92 #[.pointer (some ⟨b, 0, none⟩)] w fun e w' => e = .returned (.string ⟨l.toArray⟩) ∧ (Lib.IsBuilderF 101 5 B b (Lib.byteCells l) w' ∧ Below B w w') := Any.Builder_String_f Tryd.lays169 Tryd.Builder_Extra_169 B b l w h h0
open Go.RowKit in
/-- (*strings.Builder).String OF A BUILDER THAT HOLDS NO BYTE: the empty string; THE FORM '_f': a builder still. (LAID: no walk: one application.) -/
theorem Tryd.Builder_String_empty_f (B b : Nat) (w : World) (h : Lib.IsBuilderF 101 5 B b [] w) (hBw : B ≤ w.heap.size) :
    Calls Tryd.prog 92 #[.pointer (some ⟨b, 0, none⟩)] w fun e w' => e = .returned (.string ⟨#[]⟩) ∧ (Lib.IsBuilderF 101 5 B b [] w' ∧ Below B w w') := Any.Builder_String_empty_f Tryd.lays169 Tryd.Builder_Extra_169 B b w h hBw
open Go.RowKit in
/-- (*strings.Builder).String: "String returns the accumulated string.": WHATEVER THE BUILDER HOLDS; THE FORM '_f': OF A BUILDER THAT MAY HAVE BEEN READ BEFORE; AND IT IS A BUILDER STILL, holding the same bytes: it can be written on. (LAID: no walk: one application.) -/
theorem Tryd.Builder_String_any_f (B b : Nat) (l : List UInt8) (w : World) (h : Lib.IsBuilderF 101 5 B b (Lib.byteCells l) w) (hBw : B ≤ w.heap.size) :
    Calls Tryd.prog 92 #[.pointer (some ⟨b, 0, none⟩)] w fun e w' => e = .returned (.string ⟨l.toArray⟩) ∧ (Lib.IsBuilderF 101 5 B b (Lib.byteCells l) w' ∧ Below B w w') := Any.Builder_String_any_f Tryd.lays169 Tryd.Builder_Extra_169 B b l w h hBw
open Go.RowKit in
/-- (*strings.Builder).String: "String returns the accumulated string.": OF A BUILDER THAT HOLDS AT LEAST ONE BYTE. ✋ THE MODEL FREEZES THOSE BYTES IN THE BUFFER (unsafe.String): a later write INTO them ends the model's run without an answer; a later append BEHIND them goes on. The statement's order of evaluation is drawn: one draw. THE FORM '_k': OVER 'Lib.IsBuilderF' (a builder that 'String()' may have read), AND WITH THE FRAME THAT REACHES ABOVE THE BUILDER: 'Lib.OthersKept': every block that is not b and is no row of uint8's stands as it stood: the iterator of a range among them. (LAID: no walk: one application.) -/
theorem Tryd.Builder_String_k (B b : Nat) (l : List UInt8) (w : World) (h : Lib.IsBuilderF 101 5 B b (Lib.byteCells l) w) (h0 : l ≠ []) :
    Calls Tryd.prog 92 #[.pointer (some ⟨b, 0, none⟩)] w fun e w' => e = .returned (.string ⟨l.toArray⟩) ∧ (Lib.IsBuilderF 101 5 B b (Lib.byteCells l) w' ∧ Below B w w' ∧ Lib.OthersKept 5 (some b) w w') := Any.Builder_String_k Tryd.lays169 Tryd.Builder_Extra_169 B b l w h h0
open Go.RowKit in
/-- (*strings.Builder).String OF A BUILDER THAT HOLDS NO BYTE: the empty string; THE FORM '_k': OVER 'Lib.IsBuilderF' (a builder that 'String()' may have read), AND WITH THE FRAME THAT REACHES ABOVE THE BUILDER: 'Lib.OthersKept': every block that is not b and is no row of uint8's stands as it stood: the iterator of a range among them. (LAID: no walk: one application.) -/
theorem Tryd.Builder_String_empty_k (B b : Nat) (w : World) (h : Lib.IsBuilderF 101 5 B b [] w) (hBw : B ≤ w.heap.size) :
    Calls Tryd.prog 92 #[.pointer (some ⟨b, 0, none⟩)] w fun e w' => e = .returned (.string ⟨#[]⟩) ∧ (Lib.IsBuilderF 101 5 B b [] w' ∧ Below B w w' ∧ Lib.OthersKept 5 (some b) w w') := Any.Builder_String_empty_k Tryd.lays169 Tryd.Builder_Extra_169 B b w h hBw
open Go.RowKit in
/-- (*strings.Builder).String: "String returns the accumulated string.": WHATEVER THE BUILDER HOLDS; THE FORM '_k': OVER 'Lib.IsBuilderF' (a builder that 'String()' may have read), AND WITH THE FRAME THAT REACHES ABOVE THE BUILDER: 'Lib.OthersKept': every block that is not b and is no row of uint8's stands as it stood: the iterator of a range among them. (LAID: no walk: one application.) -/
theorem Tryd.Builder_String_any_k (B b : Nat) (l : List UInt8) (w : World) (h : Lib.IsBuilderF 101 5 B b (Lib.byteCells l) w) (hBw : B ≤ w.heap.size) :
    Calls Tryd.prog 92 #[.pointer (some ⟨b, 0, none⟩)] w fun e w' => e = .returned (.string ⟨l.toArray⟩) ∧ (Lib.IsBuilderF 101 5 B b (Lib.byteCells l) w' ∧ Below B w w' ∧ Lib.OthersKept 5 (some b) w w') := Any.Builder_String_any_k Tryd.lays169 Tryd.Builder_Extra_169 B b l w h hBw
open Go.RowKit in
/-- (*strings.Builder).grow (no doc but "grow copies the buffer to a new, larger buffer so that there are at least n bytes of capacity beyond len(b.buf)."): AT A BUILDER WITHOUT A BUFFER: a new row of whatever bytes for its buffer, none of them its own yet. Three draws. (LAID: no walk: one application.) -/
theorem Tryd.Builder_grow_fresh_cap (B b n : Nat) (w : World) (hB : B ≤ b) (hbk : w.heap[b]? = some (.cells #[.pointer (some ⟨b, 0, none⟩), .slice none 0 0] 101 (0, 0))) (hBw : B ≤ w.heap.size) (hn : n ≤ 281474976710656) :
    Calls Tryd.prog 110 #[.pointer (some ⟨b, 0, none⟩), .int .i64 n] w fun e w' => e = .returned (.tuple #[]) ∧ (Lib.BuilderAt 101 5 B b (.pointer (some ⟨b, 0, none⟩)) [] w' ∧ Below B w w') ∧ ∃ p cap, w'.cell? ⟨b, 1, none⟩ = some (.slice p 0 cap) ∧ n ≤ cap := Any.Builder_grow_fresh_cap Tryd.lays241 Tryd.Builder_Extra_241 B b n w hB hbk hBw hn
open Go.RowKit in
/-- (*strings.Builder).Grow AT A BUILDER THAT HAS NOT BEEN WRITTEN ('var b strings.Builder; b.Grow(n)'): "Grow grows b's capacity, if necessary, to guarantee space for another n bytes.": it holds no byte behind it as before it. (LAID: no walk: one application.) -/
theorem Tryd.Builder_Grow_fresh_cap (B b n : Nat) (w : World) (hB : B ≤ b) (hbk : w.heap[b]? = some (.cells #[.pointer none, .slice none 0 0] 101 (0, 0))) (hBw : B ≤ w.heap.size) (hn : n ≤ 281474976710656) :
    Calls Tryd.prog 89 #[.pointer (some ⟨b, 0, none⟩), .int .i64 n] w fun e w' => e = .returned (.tuple #[]) ∧ (Lib.BuilderAt 101 5 B b (.pointer (some ⟨b, 0, none⟩)) [] w' ∧ Below B w w') ∧ ∃ p cap, w'.cell? ⟨b, 1, none⟩ = some (.slice p 0 cap) ∧ n ≤ cap := Any.Builder_Grow_fresh_cap Tryd.lays165 Tryd.Builder_Extra_165 B b n w hB hbk hBw hn
def Tryd.lays129_ren : Go.Shelf.Ren := ⟨fun | 129 => 114 | n => n, fun | 53 => 67 | 3 => 3 | 4 => 4 | 46 => 82 | 5 => 5 | 9 => 9 | n => n, fun | n => n⟩
theorem Tryd.lays129 : Go.Proofs.Lays.n129 Tryd.prog Tryd.lays129_ren := {
  mixed := by kernel_rfl
  f129 := Tryd.func114.trans (congrArg some (by kernel_rfl))
  t3 := Tryd.underlying3
  a3 := Tryd.isAgg3
  z3 := Tryd.sizeOf3
  v3 := Tryd.zeroValue3
  t4 := Tryd.underlying4
  a4 := Tryd.isAgg4
  z4 := Tryd.sizeOf4
  v4 := Tryd.zeroValue4
  t5 := Tryd.underlying5
  a5 := Tryd.isAgg5
  z5 := Tryd.sizeOf5
  v5 := Tryd.zeroValue5
  t9 := Tryd.underlying9
  a9 := Tryd.isAgg9
  z9 := Tryd.sizeOf9
  v9 := Tryd.zeroValue9
  t46 := Tryd.underlying82
  a46 := Tryd.isAgg82
  z46 := Tryd.sizeOf82
  v46 := Tryd.zeroValue82
  t53 := Tryd.underlying67
  a53 := Tryd.isAgg67
  z53 := Tryd.sizeOf67
  v53 := Tryd.zeroValue67 }
/-- bits.Len64: "Len64 returns the minimum number of bits required to represent x; the result is 0 for x == 0.": IT RETURNS 'Lib.bitLen x'; the world is as it was. ('h0', 'h1': x is a uint64.) (LAID: no walk: one application.) -/
theorem Tryd.bits_Len64 (x : Int) (w : World) (h0 : 0 ≤ x) (h1 : x ≤ 18446744073709551615) :
    Calls Tryd.prog 114 #[.int .u64 x] w fun e w' => e = .returned (.int .i64 (Lib.bitLen x.toNat)) ∧ w' = w := Any.bits_Len64 Tryd.lays129 x w h0 h1
def Tryd.lays317_ren : Go.Shelf.Ren := ⟨fun | 317 => 113 | n => n, fun | 3 => 3 | 46 => 82 | n => n, fun | n => n⟩
theorem Tryd.lays317 : Go.Proofs.Lays.n317 Tryd.prog Tryd.lays317_ren := {
  mixed := by kernel_rfl
  f317 := Tryd.func113.trans (congrArg some (by kernel_rfl))
  t3 := Tryd.underlying3
  a3 := Tryd.isAgg3
  z3 := Tryd.sizeOf3
  v3 := Tryd.zeroValue3
  t46 := Tryd.underlying82
  a46 := Tryd.isAgg82
  z46 := Tryd.sizeOf82
  v46 := Tryd.zeroValue82 }
open Go.Lib in
/-- internal/strconv.log10Pow2: "log10Pow2(x) returns ⌊log₁₀ 2**x⌋ = ⌊x * log₁₀ 2⌋.": '(x * 78913) >> 18', at an x up to 64 (a length in bits). The world is as it was. (LAID: no walk: one application.) -/
theorem Tryd.internal_strconv_log10Pow2 (x : Nat) (h : x ≤ 64) (w : World) :
    Calls Tryd.prog 113 #[.int .i64 x] w fun e w' => e = .returned (.int .i64 (Lib.l10 x)) ∧ w' = w := Any.internal_strconv_log10Pow2 Tryd.lays317 x h w
def Tryd.lays318_ren : Go.Shelf.Ren := ⟨fun | 318 => 115 | n => n, fun | 3 => 3 | 4 => 4 | n => n, fun | n => n⟩
theorem Tryd.lays318 : Go.Proofs.Lays.n318 Tryd.prog Tryd.lays318_ren := {
  mixed := by kernel_rfl
  f318 := Tryd.func115.trans (congrArg some (by kernel_rfl))
  t3 := Tryd.underlying3
  a3 := Tryd.isAgg3
  z3 := Tryd.sizeOf3
  v3 := Tryd.zeroValue3
  t4 := Tryd.underlying4
  a4 := Tryd.isAgg4
  z4 := Tryd.sizeOf4
  v4 := Tryd.zeroValue4 }
open Go.Lib in
/-- internal/strconv.bool2: "bool2 converts b to an integer: 1 for true, 0 for false." The world is as it was. (LAID: no walk: one application.) -/
theorem Tryd.internal_strconv_bool2_int (b : Bool) (w : World) :
    Calls Tryd.prog 115 #[.bool b] w fun e w' => e = .returned (.int .i64 (if b then 1 else 0)) ∧ w' = w := Any.internal_strconv_bool2_int Tryd.lays318 b w
def Tryd.lays283_ren : Go.Shelf.Ren := ⟨fun | 283 => 102 | n => n, fun | 3 => 3 | 9 => 9 | 4 => 4 | n => n, fun | n => n⟩
theorem Tryd.lays283 : Go.Proofs.Lays.n283 Tryd.prog Tryd.lays283_ren := {
  mixed := by kernel_rfl
  f283 := Tryd.func102.trans (congrArg some (by kernel_rfl))
  t3 := Tryd.underlying3
  a3 := Tryd.isAgg3
  z3 := Tryd.sizeOf3
  v3 := Tryd.zeroValue3
  t4 := Tryd.underlying4
  a4 := Tryd.isAgg4
  z4 := Tryd.sizeOf4
  v4 := Tryd.zeroValue4
  t9 := Tryd.underlying9
  a9 := Tryd.isAgg9
  z9 := Tryd.sizeOf9
  v9 := Tryd.zeroValue9 }
open Go.Lib in
/-- internal/strconv.small: "small returns the string for an i with 0 <= i < nSmalls.": i's decimal numeral. The world is as it was. (LAID: no walk: one application.) -/
theorem Tryd.internal_strconv_small (i : Nat) (h : i < 100) (w : World) :
    Calls Tryd.prog 102 #[.int .i64 i] w fun e w' => e = .returned (.string ⟨(Lib.decDigits i).toArray⟩) ∧ w' = w := Any.internal_strconv_small Tryd.lays283 i h w
def Tryd.laysM284_ren : Go.Shelf.Ren := ⟨fun | 284 => 103 | 129 => 114 | 317 => 113 | 318 => 115 | n => n, fun | 53 => 67 | 3 => 3 | 212 => 127 | 0 => 0 | 4 => 4 | 46 => 82 | 5 => 5 | 9 => 9 | n => n, fun | 17 => 1 | n => n⟩
theorem Tryd.laysM284 : Go.Proofs.LaysM.n284 Tryd.prog Tryd.laysM284_ren := {
  mixed := by kernel_rfl
  f129 := Tryd.func114.trans (congrArg some (by kernel_rfl))
  f284 := Tryd.func103.trans (congrArg some (by kernel_rfl))
  f317 := Tryd.func113.trans (congrArg some (by kernel_rfl))
  f318 := Tryd.func115.trans (congrArg some (by kernel_rfl))
  t0 := Tryd.underlying0
  a0 := Tryd.isAgg0
  z0 := Tryd.sizeOf0
  v0 := Tryd.zeroValue0
  t3 := Tryd.underlying3
  a3 := Tryd.isAgg3
  z3 := Tryd.sizeOf3
  v3 := Tryd.zeroValue3
  t4 := Tryd.underlying4
  a4 := Tryd.isAgg4
  z4 := Tryd.sizeOf4
  v4 := Tryd.zeroValue4
  t5 := Tryd.underlying5
  a5 := Tryd.isAgg5
  z5 := Tryd.sizeOf5
  v5 := Tryd.zeroValue5
  t9 := Tryd.underlying9
  a9 := Tryd.isAgg9
  z9 := Tryd.sizeOf9
  v9 := Tryd.zeroValue9
  t46 := Tryd.underlying82
  a46 := Tryd.isAgg82
  z46 := Tryd.sizeOf82
  v46 := Tryd.zeroValue82
  t53 := Tryd.underlying67
  a53 := Tryd.isAgg67
  z53 := Tryd.sizeOf67
  v53 := Tryd.zeroValue67
  t212 := Tryd.underlying127
  a212 := Tryd.isAgg127
  z212 := Tryd.sizeOf127
  v212 := Tryd.zeroValue127
  g17 := by kernel_rfl
  i0 := by kernel_rfl
  i3 := by kernel_rfl
  i4 := by kernel_rfl
  i5 := by kernel_rfl
  i9 := by kernel_rfl
  i46 := by kernel_rfl
  i53 := by kernel_rfl
  i212 := by kernel_rfl
  m17 := by kernel_rfl }
open Go.Lib in
/-- internal/strconv.numDigits, at a d that is not 0: THE NUMBER OF d's DECIMAL DIGITS. The world is as it was. (LAID: no walk: one application.) -/
theorem Tryd.internal_strconv_numDigits (u : Nat) (h1 : 1 ≤ u) (h2 : u < 18446744073709551616) (w : World) (htab : Lib.TabIs Tryd.prog w "internal/strconv.uint64pow10" .u64 Lib.pow10Tab) :
    Calls Tryd.prog 103 #[.int .u64 u] w fun e w' => e = .returned (.int .i64 (Lib.nDigits u)) ∧ w' = w := Any.internal_strconv_numDigits Tryd.laysM284 u h1 h2 w htab
def Tryd.lays285_ren : Go.Shelf.Ren := ⟨fun | 285 => 104 | n => n, fun | 37 => 81 | 53 => 67 | 3 => 3 | 4 => 4 | 51 => 75 | 9 => 9 | 5 => 5 | 0 => 0 | n => n, fun | n => n⟩
theorem Tryd.lays285 : Go.Proofs.Lays.n285 Tryd.prog Tryd.lays285_ren := {
  mixed := by kernel_rfl
  f285 := Tryd.func104.trans (congrArg some (by kernel_rfl))
  t0 := Tryd.underlying0
  a0 := Tryd.isAgg0
  z0 := Tryd.sizeOf0
  v0 := Tryd.zeroValue0
  t3 := Tryd.underlying3
  a3 := Tryd.isAgg3
  z3 := Tryd.sizeOf3
  v3 := Tryd.zeroValue3
  t4 := Tryd.underlying4
  a4 := Tryd.isAgg4
  z4 := Tryd.sizeOf4
  v4 := Tryd.zeroValue4
  t5 := Tryd.underlying5
  a5 := Tryd.isAgg5
  z5 := Tryd.sizeOf5
  v5 := Tryd.zeroValue5
  t9 := Tryd.underlying9
  a9 := Tryd.isAgg9
  z9 := Tryd.sizeOf9
  v9 := Tryd.zeroValue9
  t37 := Tryd.underlying81
  a37 := Tryd.isAgg81
  z37 := Tryd.sizeOf81
  v37 := Tryd.zeroValue81
  t51 := Tryd.underlying75
  a51 := Tryd.isAgg75
  z51 := Tryd.sizeOf75
  v51 := Tryd.zeroValue75
  t53 := Tryd.underlying67
  a53 := Tryd.isAgg67
  z53 := Tryd.sizeOf67
  v53 := Tryd.zeroValue67 }
open Go.RowKit Go.Sort Go.Lib in
/-- internal/strconv.formatBase10: "formatBase10 formats the decimal representation of u into a. The caller is responsible for ensuring that a is big enough to hold u. If a is too big, leading zeros will be filled in as needed.": THE ROW HOLDS u's DIGITS ('FmtInv .. 0 ..': every place t holds 'dg u (len - 1 - t)'); all else is as it was but for the count of draws. (LAID: no walk: one application.) -/
theorem Tryd.internal_strconv_formatBase10 (blk off cap : Nat) (u : Nat) (d : Array UInt8) (w : World) (hH : Holds (fun (b : UInt8) => Value.int .u8 (b.toNat : Int)) w blk off d) (hu : u < 10 ^ d.size) (hu64 : u < 18446744073709551616) (hsz : d.size < 4611686018427387904) :
    Calls Tryd.prog 104 #[.slice (some ⟨blk, off, none⟩) d.size cap, .int .u64 u] w fun e w' =>
      e = .returned (.tuple #[]) ∧ ∃ (n v' : Nat) (dk : Array UInt8), w' = (putRow (fun (b : UInt8) => Value.int .u8 (b.toNat : Int)) w blk off dk).drewN n ∧ FmtInv d.size u 0 v' dk := Any.internal_strconv_formatBase10 Tryd.lays285 blk off cap u d w hH hu hu64 hsz
def Tryd.lays206_ren : Go.Shelf.Ren := ⟨fun | 206 => 108 | n => n, fun | 9 => 9 | 4 => 4 | 3 => 3 | n => n, fun | n => n⟩
theorem Tryd.lays206 : Go.Proofs.Lays.n206 Tryd.prog Tryd.lays206_ren := {
  mixed := by kernel_rfl
  f206 := Tryd.func108.trans (congrArg some (by kernel_rfl))
  t3 := Tryd.underlying3
  a3 := Tryd.isAgg3
  z3 := Tryd.sizeOf3
  v3 := Tryd.zeroValue3
  t4 := Tryd.underlying4
  a4 := Tryd.isAgg4
  z4 := Tryd.sizeOf4
  v4 := Tryd.zeroValue4
  t9 := Tryd.underlying9
  a9 := Tryd.isAgg9
  z9 := Tryd.sizeOf9
  v9 := Tryd.zeroValue9 }
open Go.RowKit Go.Lib in
/-- internal/stringslite.HasPrefix (what strings.HasPrefix calls). (LAID: no walk: one application.) -/
theorem Tryd.stringslite_HasPrefix (s p : ByteArray) (w : World) :
    Calls Tryd.prog 108 #[.string s, .string p] w fun e w' => e = .returned (.bool (Lib.hasPrefix s.data.toList p.data.toList)) ∧ w' = w := Any.stringslite_HasPrefix Tryd.lays206 s p w
def Tryd.lays99_ren : Go.Shelf.Ren := ⟨fun | 99 => 88 | 206 => 108 | n => n, fun | 9 => 9 | 4 => 4 | 3 => 3 | n => n, fun | n => n⟩
theorem Tryd.lays99 : Go.Proofs.Lays.n99 Tryd.prog Tryd.lays99_ren := {
  mixed := by kernel_rfl
  f99 := Tryd.func88.trans (congrArg some (by kernel_rfl))
  f206 := Tryd.func108.trans (congrArg some (by kernel_rfl))
  t3 := Tryd.underlying3
  a3 := Tryd.isAgg3
  z3 := Tryd.sizeOf3
  v3 := Tryd.zeroValue3
  t4 := Tryd.underlying4
  a4 := Tryd.isAgg4
  z4 := Tryd.sizeOf4
  v4 := Tryd.zeroValue4
  t9 := Tryd.underlying9
  a9 := Tryd.isAgg9
  z9 := Tryd.sizeOf9
  v9 := Tryd.zeroValue9 }
open Go.RowKit Go.Lib in
/-- strings.HasPrefix: "HasPrefix reports whether the string s begins with prefix.": IT RETURNS 'Lib.hasPrefix s prefix'; the world is as it was. (LAID: no walk: one application.) -/
theorem Tryd.strings_HasPrefix (s p : ByteArray) (w : World) :
    Calls Tryd.prog 88 #[.string s, .string p] w fun e w' => e = .returned (.bool (Lib.hasPrefix s.data.toList p.data.toList)) ∧ w' = w := Any.strings_HasPrefix Tryd.lays99 s p w
def Tryd.lays264_ren : Go.Shelf.Ren := ⟨fun | 264 => 107 | n => n, fun | 53 => 67 | 46 => 82 | n => n, fun | n => n⟩
theorem Tryd.lays264 : Go.Proofs.Lays.n264 Tryd.prog Tryd.lays264_ren := {
  mixed := by kernel_rfl
  f264 := Tryd.func107.trans (congrArg some (by kernel_rfl))
  t46 := Tryd.underlying82
  a46 := Tryd.isAgg82
  z46 := Tryd.sizeOf82
  v46 := Tryd.zeroValue82
  t53 := Tryd.underlying67
  a53 := Tryd.isAgg67
  z53 := Tryd.sizeOf67
  v53 := Tryd.zeroValue67 }
open Go.RowKit Go.Lib in
theorem Tryd.bits_Mul64 (x y : Nat) (hx : x < 18446744073709551616) (hy : y < 18446744073709551616) (w : World) :
    Calls Tryd.prog 107 #[.int .u64 x, .int .u64 y] w fun e w' => e = .returned (.tuple #[.int .u64 ((x * y / 18446744073709551616 : Nat) : Int), .int .u64 ((x * y % 18446744073709551616 : Nat) : Int)]) ∧ w' = w := Any.bits_Mul64 Tryd.lays264 x y hx hy w
def Tryd.lays212_ren : Go.Shelf.Ren := ⟨fun | 212 => 87 | 263 => 106 | 264 => 107 | n => n, fun | 46 => 82 | 51 => 75 | 146 => 110 | 53 => 67 | 148 => 122 | n => n, fun | n => n⟩
theorem Tryd.lays212 : Go.Proofs.Lays.n212 Tryd.prog Tryd.lays212_ren := {
  mixed := by kernel_rfl
  f212 := Tryd.func87.trans (congrArg some (by kernel_rfl))
  f263 := Tryd.func106.trans (congrArg some (by kernel_rfl))
  f264 := Tryd.func107.trans (congrArg some (by kernel_rfl))
  t46 := Tryd.underlying82
  a46 := Tryd.isAgg82
  z46 := Tryd.sizeOf82
  v46 := Tryd.zeroValue82
  t51 := Tryd.underlying75
  a51 := Tryd.isAgg75
  z51 := Tryd.sizeOf75
  v51 := Tryd.zeroValue75
  t53 := Tryd.underlying67
  a53 := Tryd.isAgg67
  z53 := Tryd.sizeOf67
  v53 := Tryd.zeroValue67
  t146 := Tryd.underlying110
  a146 := Tryd.isAgg110
  z146 := Tryd.sizeOf110
  v146 := Tryd.zeroValue110
  t148 := Tryd.underlying122
  a148 := Tryd.isAgg122
  z148 := Tryd.sizeOf122
  v148 := Tryd.zeroValue122 }
open Go.RowKit Go.Lib in
/-- math/bits.Mul: "Mul returns the full-width product of x and y": on a machine of 64 bits: Mul64's. (LAID: no walk: one application.) -/
theorem Tryd.bits_Mul (x y : Nat) (hx : x < 18446744073709551616) (hy : y < 18446744073709551616) (w : World) :
    Calls Tryd.prog 87 #[.int .u64 x, .int .u64 y] w fun e w' => e = .returned (.tuple #[.int .u64 ((x * y / 18446744073709551616 : Nat) : Int), .int .u64 ((x * y % 18446744073709551616 : Nat) : Int)]) ∧ w' = w := Any.bits_Mul Tryd.lays212 x y hx hy w
def Tryd.lays105_ren : Go.Shelf.Ren := ⟨fun | 105 => 71 | 212 => 87 | 99 => 88 | 165 => 89 | 166 => 90 | 170 => 91 | 169 => 92 | 263 => 106 | 264 => 107 | 206 => 108 | 240 => 109 | 241 => 110 | 276 => 118 | 277 => 119 | n => n, fun | 9 => 9 | 3 => 3 | 4 => 4 | 20 => 20 | 0 => 0 | 46 => 82 | 109 => 96 | 5 => 5 | 72 => 101 | 76 => 105 | 51 => 75 | 146 => 110 | 53 => 67 | 148 => 122 | 70 => 99 | 37 => 81 | 75 => 104 | 127 => 124 | 164 => 131 | 80 => 107 | n => n, fun | n => n⟩
theorem Tryd.lays105 : Go.Proofs.Lays.n105 Tryd.prog Tryd.lays105_ren := {
  mixed := by kernel_rfl
  f99 := Tryd.func88.trans (congrArg some (by kernel_rfl))
  f105 := Tryd.func71.trans (congrArg some (by kernel_rfl))
  f165 := Tryd.func89.trans (congrArg some (by kernel_rfl))
  f166 := Tryd.func90.trans (congrArg some (by kernel_rfl))
  f169 := Tryd.func92.trans (congrArg some (by kernel_rfl))
  f170 := Tryd.func91.trans (congrArg some (by kernel_rfl))
  f206 := Tryd.func108.trans (congrArg some (by kernel_rfl))
  f212 := Tryd.func87.trans (congrArg some (by kernel_rfl))
  f240 := Tryd.func109.trans (congrArg some (by kernel_rfl))
  f241 := Tryd.func110.trans (congrArg some (by kernel_rfl))
  f263 := Tryd.func106.trans (congrArg some (by kernel_rfl))
  f264 := Tryd.func107.trans (congrArg some (by kernel_rfl))
  f276 := Tryd.func118.trans (congrArg some (by kernel_rfl))
  f277 := Tryd.func119.trans (congrArg some (by kernel_rfl))
  t0 := Tryd.underlying0
  a0 := Tryd.isAgg0
  z0 := Tryd.sizeOf0
  v0 := Tryd.zeroValue0
  t3 := Tryd.underlying3
  a3 := Tryd.isAgg3
  z3 := Tryd.sizeOf3
  v3 := Tryd.zeroValue3
  t4 := Tryd.underlying4
  a4 := Tryd.isAgg4
  z4 := Tryd.sizeOf4
  v4 := Tryd.zeroValue4
  t5 := Tryd.underlying5
  a5 := Tryd.isAgg5
  z5 := Tryd.sizeOf5
  v5 := Tryd.zeroValue5
  t9 := Tryd.underlying9
  a9 := Tryd.isAgg9
  z9 := Tryd.sizeOf9
  v9 := Tryd.zeroValue9
  t20 := Tryd.underlying20
  a20 := Tryd.isAgg20
  z20 := Tryd.sizeOf20
  v20 := Tryd.zeroValue20
  t37 := Tryd.underlying81
  a37 := Tryd.isAgg81
  z37 := Tryd.sizeOf81
  v37 := Tryd.zeroValue81
  t46 := Tryd.underlying82
  a46 := Tryd.isAgg82
  z46 := Tryd.sizeOf82
  v46 := Tryd.zeroValue82
  t51 := Tryd.underlying75
  a51 := Tryd.isAgg75
  z51 := Tryd.sizeOf75
  v51 := Tryd.zeroValue75
  t53 := Tryd.underlying67
  a53 := Tryd.isAgg67
  z53 := Tryd.sizeOf67
  v53 := Tryd.zeroValue67
  t70 := Tryd.underlying99
  a70 := Tryd.isAgg99
  z70 := Tryd.sizeOf99
  v70 := Tryd.zeroValue99
  t72 := Tryd.underlying101
  a72 := Tryd.isAgg101
  z72 := Tryd.sizeOf101
  v72 := Tryd.zeroValue101
  t75 := Tryd.underlying104
  a75 := Tryd.isAgg104
  z75 := Tryd.sizeOf104
  v75 := Tryd.zeroValue104
  t76 := Tryd.underlying105
  a76 := Tryd.isAgg105
  z76 := Tryd.sizeOf105
  v76 := Tryd.zeroValue105
  t109 := Tryd.underlying96
  a109 := Tryd.isAgg96
  z109 := Tryd.sizeOf96
  v109 := Tryd.zeroValue96
  t127 := Tryd.underlying124
  a127 := Tryd.isAgg124
  z127 := Tryd.sizeOf124
  v127 := Tryd.zeroValue124
  t146 := Tryd.underlying110
  a146 := Tryd.isAgg110
  z146 := Tryd.sizeOf110
  v146 := Tryd.zeroValue110
  t148 := Tryd.underlying122
  a148 := Tryd.isAgg122
  z148 := Tryd.sizeOf122
  v148 := Tryd.zeroValue122
  t164 := Tryd.underlying131
  a164 := Tryd.isAgg131
  z164 := Tryd.sizeOf131
  v164 := Tryd.zeroValue131 }
theorem Tryd.Builder_Extra_105 : Builder.Extra Tryd.prog Tryd.lays105_ren := {
  sizeBuilder := by kernel_rfl
  liesBuilder := by kernel_rfl
  t5 := Tryd.underlying5
  a5 := Tryd.isAgg5
  z5 := Tryd.sizeOf5
  v5 := Tryd.zeroValue5
  infoByte := by kernel_rfl
  cellsByte := by kernel_rfl
  sizeByte := by kernel_rfl
  neB5 := by decide }
open Go.RowKit Go.Lib in
/-- THE MAIN CASE: at least two copies of a string that is not empty. (LAID: no walk: one application.) -/
theorem Tryd.strings_Repeat_main (s : ByteArray) (c : Nat) (w : World) (hc2 : 2 ≤ c) (hc : c ≤ 9223372036854775807) (hlen : s.size * c ≤ 140737488355328) (h0 : 0 < s.size) :
    Calls Tryd.prog 71 #[.string s, .int .i64 c] w fun e w' => e = .returned (.string ⟨(Lib.repeatL s.data.toList c).toArray⟩) ∧ Below w.heap.size w w' := Any.strings_Repeat_main Tryd.lays105 Tryd.Builder_Extra_105 s c w hc2 hc hlen h0
open Go.RowKit Go.Lib in
theorem Tryd.strings_Repeat_zero (s : ByteArray) (w : World) :
    Calls Tryd.prog 71 #[.string s, .int .i64 0] w fun e w' => e = .returned (.string ⟨#[]⟩) ∧ w' = w := Any.strings_Repeat_zero Tryd.lays105 s w
open Go.RowKit Go.Lib in
theorem Tryd.strings_Repeat_one (s : ByteArray) (w : World) :
    Calls Tryd.prog 71 #[.string s, .int .i64 1] w fun e w' => e = .returned (.string s) ∧ w' = w := Any.strings_Repeat_one Tryd.lays105 s w
open Go.RowKit Go.Lib in
/-- Copies of the empty string. (LAID: no walk: one application.) -/
theorem Tryd.strings_Repeat_empty (s : ByteArray) (c : Nat) (w : World) (hc2 : 2 ≤ c) (hc : c ≤ 9223372036854775807) (h0 : s.size = 0) :
    Calls Tryd.prog 71 #[.string s, .int .i64 c] w fun e w' => e = .returned (.string ⟨#[]⟩) ∧ w' = w := Any.strings_Repeat_empty Tryd.lays105 s c w hc2 hc h0
open Go.RowKit Go.Lib in
/-- count < 0: "It panics if count is negative". (LAID: no walk: one application.) -/
theorem Tryd.strings_Repeat_negative (s : ByteArray) (c : Int) (w : World) (hc : c < 0) :
    Calls Tryd.prog 71 #[.string s, .int .i64 c] w fun e w' => e = .panicked [{ v := repeatPanic Tryd.lays105_ren "strings: negative Repeat count", recovered := false }] ∧ w' = w := Any.strings_Repeat_negative Tryd.lays105 s c w hc
open Go.RowKit Go.Lib in
/-- len(s) * count is no int: ".. or if the result of (len(s) * count) overflows". (LAID: no walk: one application.) -/
theorem Tryd.strings_Repeat_overflow (s : ByteArray) (c : Nat) (w : World) (hc : c ≤ 9223372036854775807) (hs : s.size ≤ 9223372036854775807) (hbig : 9223372036854775807 < s.size * c) :
    Calls Tryd.prog 71 #[.string s, .int .i64 c] w fun e w' => e = .panicked [{ v := repeatPanic Tryd.lays105_ren "strings: Repeat output length overflow", recovered := false }] ∧ w' = w := Any.strings_Repeat_overflow Tryd.lays105 s c w hc hs hbig
open Go.RowKit Go.Lib in
/-- **strings.Repeat: count ≥ 0, the result within one allocation: count copies of s.** (LAID: no walk: one application.) -/
theorem Tryd.strings_Repeat (s : ByteArray) (c : Nat) (w : World) (hc : c ≤ 9223372036854775807) (hlen : s.size * c ≤ 140737488355328) :
    Calls Tryd.prog 71 #[.string s, .int .i64 c] w fun e w' => e = .returned (.string ⟨(Lib.repeatL s.data.toList c).toArray⟩) ∧ Below w.heap.size w w' := Any.strings_Repeat Tryd.lays105 Tryd.Builder_Extra_105 s c w hc hlen
def Tryd.laysNm217_ren : Go.Shelf.Ren := ⟨fun | 17 => 72 | n => n, fun | 24 => 84 | 9 => 9 | 3 => 3 | 4 => 4 | 0 => 0 | n => n, fun | n => n⟩
theorem Tryd.laysNm217 : Go.Proofs.Lays2.n17 Tryd.prog Tryd.laysNm217_ren := {
  mixed := by kernel_rfl
  f17 := Tryd.func72.trans (congrArg some (by kernel_rfl))
  t0 := Tryd.underlying0
  a0 := Tryd.isAgg0
  z0 := Tryd.sizeOf0
  v0 := Tryd.zeroValue0
  t3 := Tryd.underlying3
  a3 := Tryd.isAgg3
  z3 := Tryd.sizeOf3
  v3 := Tryd.zeroValue3
  t4 := Tryd.underlying4
  a4 := Tryd.isAgg4
  z4 := Tryd.sizeOf4
  v4 := Tryd.zeroValue4
  t9 := Tryd.underlying9
  a9 := Tryd.isAgg9
  z9 := Tryd.sizeOf9
  v9 := Tryd.zeroValue9
  t24 := Tryd.underlying84
  a24 := Tryd.isAgg84
  z24 := Tryd.sizeOf84
  v24 := Tryd.zeroValue84 }
open Go.RowKit Go.Lib Go.Sort in
/-- slices.Reverse at []string, over an array: Go's loop from the two ends inward is walked; it makes 'Sort.reverseLoop 0 (len - 1)', which is 'Array.reverse' (Derived/Lib/SlicesMore.lean). (LAID: no walk: one application.) -/
theorem Tryd.slices_Reverse_string_arr (blk off cap : Nat) (d : Array (List UInt8)) (w : World) (hH : Holds encStr w blk off d) (hsz : d.size ≤ 9223372036854775807) :
    Calls Tryd.prog 72 #[.slice (some ⟨blk, off, none⟩) d.size cap] w fun e w' => e = .returned (.tuple #[]) ∧ ∃ n, w' = putRow encStr (Sort.ahead w n) blk off d.reverse := Any.slices_Reverse_string_arr Tryd.laysNm217 blk off cap d w hH hsz
open Go.RowKit Go.Lib Go.Sort in
/-- slices.Reverse at []string: "Reverse reverses the elements of the slice in place.": THE SLICE's CELLS HOLD 'zs.reverse' BEHIND THE CALL; all else is as it was, but for the count of draws (the exchange 's[i], s[j] = s[j], s[i]' draws its order, once a round). IN THE WORDS OF slices.Sort's CONTRACT: 'Holds': the cells hold zs and none is frozen; 'putRow': the world with those cells holding another array. A slice of length 0 that is not nil is among them ('zs = []'); nil: '.._nil'. (LAID: no walk: one application.) -/
theorem Tryd.slices_Reverse_string (blk off cap : Nat) (zs : List (List UInt8)) (w : World) (hH : Holds encStr w blk off zs.toArray) (hsz : zs.length ≤ 9223372036854775807) :
    Calls Tryd.prog 72 #[.slice (some ⟨blk, off, none⟩) zs.length cap] w fun e w' => e = .returned (.tuple #[]) ∧ ∃ n, w' = putRow encStr (Sort.ahead w n) blk off zs.reverse.toArray := Any.slices_Reverse_string Tryd.laysNm217 blk off cap zs w hH hsz
open Go.RowKit Go.Lib Go.Sort in
/-- The same at a slice of length 0, a nil one too: nothing is read, nothing written, nothing drawn. (LAID: no walk: one application.) -/
theorem Tryd.slices_Reverse_string_empty (a : Option Addr) (cap : Nat) (w : World) :
    Calls Tryd.prog 72 #[.slice a 0 cap] w fun e w' => e = .returned (.tuple #[]) ∧ w' = w := Any.slices_Reverse_string_empty Tryd.laysNm217 a cap w
open Go.RowKit Go.Lib Go.Sort in
/-- slices.Reverse at []string, of an argument. (LAID: no walk: one application.) -/
theorem Tryd.slices_Reverse_string_cells (b off n c : Nat) (Sx : Nat → ByteArray) (w : World) (hbig : n ≤ 9223372036854775807) (hc : ∀ i, i < n → w.cell? ⟨b, off + i, none⟩ = some (.string (Sx i))) (hf : ∀ j, j < n → w.frozen? ⟨b, off + j, none⟩ = false) :
    Calls Tryd.prog 72 #[.slice (some ⟨b, off, none⟩) n c] w fun e w' => e = .returned (.tuple #[]) ∧ ∃ q, w' = (w.drewN q).setCells b off ((Lib.strsOf Sx n).reverse.map encStr) := Any.slices_Reverse_string_cells Tryd.laysNm217 b off n c Sx w hbig hc hf
end Go.Proofs
end

section
/-
  zint.lay: digits as bytes.
-/
namespace Go.Proofs.YthgkdpfkaobgoaaDoor
open Go.RowKit
theorem elem8_info : (Tryd.prog.info? 5).map (fun i => (i.zero, i.size, i.bytes)) = some (some (.int .u8 0), 1, 1) := by kernel_rfl
/-- A digit's four bytes, the least first. -/
def d4 (x : Nat) : List UInt8 := [UInt8.ofNat x, UInt8.ofNat (x / 256), UInt8.ofNat (x / 65536), UInt8.ofNat (x / 16777216)]
def lay4 (xs : List Nat) : List UInt8 := xs.flatMap d4
theorem lay4_len (xs : List Nat) : (lay4 xs).length = 4 * xs.length := by
  unfold lay4
  induction xs with
  | nil => rfl
  | cons x xs ih => rw [List.flatMap_cons, List.length_append, ih]; simp [d4]; omega
theorem lay4_take {xs : List Nat} {k : Nat} (hk : k < xs.length) : lay4 (xs.take (k + 1)) = lay4 (xs.take k) ++ d4 (xs[k]?.getD 0) := by
  unfold lay4
  rw [take_one hk, List.flatMap_append]
  simp
theorem four_new {w : World} {a b c d : Value} {T : TypeId} {j : Nat} {u : Value} (hj : [a, b, c, d][j]? = some u) : (w.alloc (.cells #[a, b, c, d] T)).cell? ((⟨w.heap.size, 0, none⟩ : Addr).add j) = some u := by
  rw [Addr.add_lit, Nat.zero_add, cell_of_row _ _ _ _ _ _ (heap_alloc_new w _)]
  simpa using hj
theorem d4_cells {x : Nat} {X : Int} (h : (x : Int) = X) (hx : x < 4294967296) : Lib.byteCells (d4 x) = [.int .u8 (X % 256), .int .u8 (X / 256 % 256), .int .u8 (X / 65536 % 256), .int .u8 (X / 16777216)] := by
  subst h
  unfold Lib.byteCells d4
  simp
  omega
theorem byteCells_add (a b : List UInt8) : Lib.byteCells (a ++ b) = Lib.byteCells a ++ Lib.byteCells b := by simp [Lib.byteCells]
set_option maxHeartbeats 1000000 in
set_option maxRecDepth 100000 in
theorem lay_any (base : Nat) (v : Value) (n : Nat) (bs : List UInt8) (D : Option Addr) (d : Nat) (xs : List Nat) (w : World) (hown : w.ownsRow base 5 1 v n (Lib.byteCells bs)) (h : Dg w D d xs)
    (hB : 0 < xs.length → ∀ b o, D = some ⟨b, o, none⟩ → b < base) (hbase : base ≤ w.heap.size) (hl : n + 4 * xs.length ≤ 1000000) :
    Calls Tryd.prog 69 #[v, .slice D xs.length d] w fun e w' => ∃ v', e = .returned v' ∧ w'.ownsRow base 5 1 v' (n + 4 * xs.length) (Lib.byteCells (bs ++ lay4 xs)) ∧ Below base w w' := by
  obtain ⟨i0, hi, hz0, hz1, hz2⟩ := info_parts elem8_info
  have H := Lib.hid h
  have HO := Lib.hid hown
  have HBB := Lib.hid hB
  clear h hown hB
  have hl1 : xs.length ≤ 250000 := by omega
  go_enter Tryd.func69, Tryd.ntmps69
  go_wp2
  go_loopw [0, 9] (fun v i wr => ∃ k : Nat, k ≤ xs.length ∧ i = .int .i64 k ∧ Hid (wr.ownsRow base 5 1 v (n + 4 * k) (Lib.byteCells (bs ++ lay4 (xs.take k)))) ∧ Hid (Below base w wr)) (fun _ i _ => xs.length - (intOf i).toNat)
  case atStart => exact ⟨0, Nat.zero_le _, rfl, Lib.hid (by simpa [lay4] using HO.out), Lib.hid (Below.refl _ _)⟩
  case round =>
    obtain ⟨k, hk, rfl, ho, hb⟩ := hrel
    by_cases hlt : k < xs.length
    · obtain ⟨b, off, hD, hbl, hcell⟩ := H.out.2.2 (by omega)
      have hc := (hb.out.cell (p := ⟨b, off + k, none⟩) (HBB.out (by omega) b off hD)).trans (hcell k hlt)
      have hx := getD_lt H.out.2.1 k
      have hsz := hb.out.size
      have HX := Lib.hid hx
      generalize hxk : xs[k]?.getD 0 = x at *
      have HXK := Lib.hid hxk
      clear hcell hxk hx
      generalize hX : ((x : Nat) : Int) = X at *
      have i0' : 0 ≤ X := by omega
      have i1' : X < 4294967296 := by have := HX.out; omega
      have HXX := Lib.hid hX
      clear hX
      subst hD
      have hkk : n + 4 * k + 4 ≤ 1000000 := by omega
      go_wp2_with (at_builtin; refine wpList_append_own _ rfl _ _ 81 rfl base 5 i0 (.int .u8 0) 1 1 Tryd.underlying81 hi hz0 hz1 hz2 rfl (by decide) _ _ _ rfl (ho.out.alloc _) ⟨wr.heap.size, 0, none⟩ 4 4 [.int .u8 (X % 256), .int .u8 (X / 256 % 256), .int .u8 (X / 65536 % 256), .int .u8 (X / 16777216)] rfl rfl (fun j u hj => four_new hj) (by intro u hu; simp at hu; rcases hu with rfl | rfl | rfl | rfl <;> rfl) (by unfold maxLen; omega) (by omega) (by simp; omega) ?_)
      intro v' w1 hown1 hgrow _
      have HN := Lib.hid hown1
      have HB1 := Lib.hid ((hb.out.alloc (by omega) _).grown hgrow (by simp; omega) (fun k hk => (ho.out.lt k hk).1))
      clear hown1 hgrow
      go_wp2
      go_roundw
      case rel =>
        refine ⟨k + 1, by omega, by go_num, Lib.hid ?_, HB1⟩
        rw [lay4_take hlt, HXK.out, ← List.append_assoc, byteCells_add, d4_cells HXX.out HX.out]
        exact HN.out
      case measure => simp [intOf]; omega
    · have hkl : k = xs.length := by omega
      subst hkl
      have e : xs.take xs.length = xs := List.take_length
      have HH := Lib.hid (And.intro ho.out hb.out)
      rw [e] at HH
      clear ho hb e
      go_wp2
      go_ret
      exact ⟨_, rfl, HH.out.1, HH.out.2⟩
end Go.Proofs.YthgkdpfkaobgoaaDoor
end

section
/-
  zint.Right and the reference's; the sign of a number while it is reckoned.
-/
namespace Go.Proofs.YthgkdpfkaobgoaaDoor
open Go.RowKit
/-- Is it right? -/
def rightB (s : Bool) (xs : List Nat) : Bool := if xs.length = 0 then !s else decide (xs[xs.length - 1]?.getD 0 ≠ 0)
set_option maxHeartbeats 1000000 in
set_option maxRecDepth 100000 in
theorem right_any (A : Option Addr) (c : Nat) (s : Bool) (xs : List Nat) (w : World) (h : Dg w A c xs) (q : Bool) (hq : rightB s xs = q) (hl : xs.length ≤ 9223372036854775807) :
    Calls Tryd.prog 31 #[.agg #[.bool s, .slice A xs.length c]] w fun e w' => e = .returned (.bool q) ∧ Below w.heap.size w w' := by
  by_cases h0 : xs.length = 0
  · have t0 : ((xs.length : Int) == 0) = true := by rw [h0]; rfl
    have hq2 : (!s) = q := by rw [← hq]; unfold rightB; rw [if_pos h0]
    clear h h0 hq
    go_enter Tryd.func31, Tryd.ntmps31
    go_wp2
    go_ret
    exact ⟨rfl, below1 _ _⟩
  · have t0 : ((xs.length : Int) == 0) = false := beq_eq_false_iff_ne.2 (by omega)
    obtain ⟨b, off, hA, hb, hc⟩ := h.2.2 (by omega)
    have hx := hc (xs.length - 1) (by omega)
    have hp : 0 < xs.length := by omega
    have hq' : decide (xs[xs.length - 1]?.getD 0 ≠ 0) = q := by rw [← hq]; unfold rightB; rw [if_neg h0]
    generalize xs[xs.length - 1]?.getD 0 = x at *
    have hxq : ((x : Int) != 0) = q := by
      rw [← hq', Bool.eq_iff_iff]; simp
    have HX := Lib.hid hxq
    clear h h0 hq hc hq' hxq
    subst hA
    go_enter Tryd.func31, Tryd.ntmps31
    go_wp2
    go_ret
    refine ⟨?_, below1 _ _⟩
    rw [← HX.out]
    rfl
set_option maxHeartbeats 1000000 in
set_option maxRecDepth 100000 in
theorem sign_any (A : Option Addr) (c m : Nat) (t : Bool) (w : World) (q : Int) (hq : Int.sign (sg t m) = q) :
    Calls Tryd.prog 57 #[.agg #[.slice A (digs m).length c, .bool t]] w fun e w' => e = .returned (.int .i64 q) ∧ Below w.heap.size w w' := by
  by_cases h0 : m = 0
  · have HQ := Lib.hid (show (0 : Int) = q by rw [← hq, h0]; unfold sg; cases t <;> rfl)
    have HZ := Lib.hid (fun W => zero_any A (digs m).length c W true (by rw [h0, digs_zero]; rfl))
    clear hq h0
    go_enter Tryd.func57, Tryd.ntmps57
    go_wp2_with fail
    refine (HZ.out _).mono ?_
    rintro e w1 ⟨rfl, hb⟩
    have K := Lib.hid ((below1 w _).trans (hb.mono (by simp)))
    clear hb
    go_wp2
    go_ret
    exact ⟨ret_i HQ.out, K.out⟩
  · have HZ := Lib.hid (fun W => zero_any A (digs m).length c W false (beq_eq_false_iff_ne.2 (by have : (digs m).length ≠ 0 := fun e => h0 (digs_nil.1 e); omega)))
    have HP := Lib.hid (show Int.sign (m : Int) = 1 from Int.sign_eq_one_of_pos (by omega))
    clear h0
    cases t
    all_goals
      go_enter Tryd.func57, Tryd.ntmps57
      go_wp2_with fail
      refine (HZ.out _).mono ?_
      rintro e w1 ⟨rfl, hb⟩
      obtain ⟨hc1, hf1⟩ := bcell hb
      have K := Lib.hid ((below1 w _).trans (hb.mono (by simp)))
      clear hb
      go_wp2
      go_ret
      refine ⟨ret_i ?_, K.out⟩
      rw [← hq]; unfold sg; simp [HP.out]
end Go.Proofs.YthgkdpfkaobgoaaDoor
end

section
/-
  zint.Bytes.
-/
namespace Go.Proofs.YthgkdpfkaobgoaaDoor
open Go.RowKit
/-- The two bytes ahead: how many digits, and the sign. -/
def headN (s : Bool) (n : Nat) : Nat := 2 * n + (if s then 1 else 0)
def zbytes (s : Bool) (xs : List Nat) : List UInt8 := UInt8.ofNat (headN s xs.length / 256) :: UInt8.ofNat (headN s xs.length) :: lay4 xs
theorem zbytes_len (s : Bool) (xs : List Nat) : (zbytes s xs).length = 2 + 4 * xs.length := by simp [zbytes, lay4_len]; omega
theorem two_new {w : World} {a b : Value} {T : TypeId} {j : Nat} {u : Value} (hj : [a, b][j]? = some u) : (w.alloc (.cells #[a, b] T)).cell? ((⟨w.heap.size, 0, none⟩ : Addr).add j) = some u := by
  rw [Addr.add_lit, Nat.zero_add, cell_of_row _ _ _ _ _ _ (heap_alloc_new w _)]
  simpa using hj
theorem head_cells {H : Int} {h : Nat} (e : (h : Int) = H) (hh : H ≤ 801) : Lib.byteCells [UInt8.ofNat (h / 256), UInt8.ofNat h] = [.int .u8 (H / 256), .int .u8 (H % 256)] := by
  subst e
  unfold Lib.byteCells
  simp
  omega
theorem own_string {w : World} {base : Nat} {v : Value} {n : Nat} {l : List UInt8} (hown : w.ownsRow base 5 1 v n (Lib.byteCells l)) (hn : n = l.length) (h0 : 0 < n) :
    (convert 81 9 v).run Tryd.prog w = .ok (.string ⟨l.toArray⟩) w := by
  subst hn
  rcases hown.2 with ⟨rfl, h1⟩ | ⟨g, cap, cur, rfl, _, _, _, _, _, _⟩
  · omega
  · refine run_convert_bytes_back w 81 9 5 ⟨g, 0, none⟩ cap l Tryd.underlying81 Tryd.underlying5 Tryd.underlying9 (fun j hj => ?_)
    have := hown.cells (g := g) rfl j (.int .u8 (l[j].toNat : Int)) (by unfold Lib.byteCells; simp [hj])
    exact this
set_option maxHeartbeats 2000000 in
set_option maxRecDepth 100000 in
theorem zbytes_no (A : Option Addr) (c : Nat) (s : Bool) (xs : List Nat) (w : World) (h : Dg w A c xs) (hl : xs.length ≤ 9223372036854775807) (hno : rightB s xs = false ∨ 400 < xs.length) :
    Calls Tryd.prog 37 #[.agg #[.bool s, .slice A xs.length c]] w fun e w' => e = .returned (.tuple #[.string ⟨#[]⟩, .int .i64 1]) ∧ Below w.heap.size w w' := by
  have RA := Lib.hid (fun W h q hq => right_any A c s xs W h q hq hl)
  cases hr : rightB s xs
  · have HR := Lib.hid hr
    clear hno hr
    go_enter Tryd.func37, Tryd.ntmps37
    go_wp2_with fail
    refine (RA.out _ (h.below (below1 _ _)) false HR.out).mono ?_
    rintro e w1 ⟨rfl, hb⟩
    have K1 := Lib.hid ((below1 w _).trans (hb.mono (by simp)))
    clear hb
    go_wp2
    go_ret2
    exact ⟨rfl, K1.out⟩
  · have HR := Lib.hid hr
    have h4 : 400 < xs.length := hno.resolve_left (by rw [hr]; simp)
    have d4 : decide ((400 : Int) < (xs.length : Int)) = true := by simp; omega
    clear hno hr h4
    go_enter Tryd.func37, Tryd.ntmps37
    go_wp2_with fail
    refine (RA.out _ (h.below (below1 _ _)) true HR.out).mono ?_
    rintro e w1 ⟨rfl, hb⟩
    have K1 := Lib.hid ((below1 w _).trans (hb.mono (by simp)))
    obtain ⟨hc, hf⟩ := bcell hb
    clear hb
    go_wp2
    go_ret2
    exact ⟨rfl, K1.out⟩
set_option maxHeartbeats 2000000 in
set_option maxRecDepth 100000 in
theorem zbytes_any (A : Option Addr) (c : Nat) (s : Bool) (xs : List Nat) (w : World) (h : Dg w A c xs) (hl : xs.length ≤ 400) (hr : rightB s xs = true) :
    Calls Tryd.prog 37 #[.agg #[.bool s, .slice A xs.length c]] w fun e w' => e = .returned (.tuple #[.string ⟨(zbytes s xs).toArray⟩, .int .i64 0]) ∧ Below w.heap.size w w' := by
  have RA := Lib.hid (fun W h => right_any A c s xs W h true hr (by omega))
  obtain ⟨i0, hi, hz0, hz1, hz2⟩ := info_parts elem8_info
  have d4 : decide ((400 : Int) < (xs.length : Int)) = false := by simp; omega
  clear hr
  have HD := Lib.hid h
  have hbase : 0 < xs.length → ∀ b o, A = some ⟨b, o, none⟩ → b < w.heap.size + 1 := fun h0 b o e => by
    obtain ⟨b1, o1, e1, hb1, _⟩ := h.2.2 h0
    rw [e] at e1; simp only [Option.some.injEq, Addr.mk.injEq] at e1; omega
  have HBASE := Lib.hid hbase
  clear hbase h
  obtain ⟨H, hH⟩ : ∃ H : Int, ((headN s xs.length : Nat) : Int) = H := ⟨_, rfl⟩
  have HH := Lib.hid hH
  have hH2 : H = 2 * (xs.length : Int) + (if s then 1 else 0) := by rw [← hH]; unfold headN; cases s <;> simp
  clear hH
  cases s
  · have hH3 : 2 * (xs.length : Int) = H := by simpa using hH2.symm
    have hHb : 0 ≤ H ∧ H ≤ 801 := by omega
    obtain ⟨hHb0, hHb1⟩ := hHb
    have HEQ := Lib.hid hH3
    clear hH2 hH3
    go_enter Tryd.func37, Tryd.ntmps37
    go_wp2_with fail
    refine (RA.out _ (HD.out.below (below1 _ _))).mono ?_
    rintro e w1 ⟨rfl, hb⟩
    have K1 := Lib.hid (show Below (w.heap.size + 1) (w.alloc (.cells #[.bool false, .slice A xs.length c] 24)) w1 by simpa using hb)
    obtain ⟨hc, hf⟩ := bcellB K1.out
    have hsz : w.heap.size + 1 ≤ w1.heap.size := by have := K1.out.size; simpa using this
    clear hb
    go_upto_region 6 with fail
    rw [HEQ.out]
    have hlen : xs.length ≤ 400 := hl
    go_wp2_with (refine wpList_make_own _ rfl (.const (.int .i64 0)) (.tmp 27) 81 rfl (w.heap.size + 1) 5 i0 (.int .u8 0) 1 Tryd.underlying81 hi hz0 hz1 .i64 .i64 _ (2 + 4 * xs.length) rfl rfl (by push_cast; omega) (by rw [hz2]; omega) (by unfold maxLen; omega) hsz ?_; intro w2 hown2 hgrow2; refine Hid.out ?_)
    refine Lib.hid ?_
    have HO2 := Lib.hid hown2
    have KG := Lib.hid (K1.out.grown hgrow2 hsz (fun k hk => by cases hk))
    obtain ⟨hc2, hf2⟩ := bcellB KG.out
    have hsz2 : w.heap.size + 1 ≤ w2.heap.size := by have := KG.out.size; simpa using this
    clear hown2 hgrow2 hc hf
    go_wp2_with (at_builtin; refine wpList_append_own _ rfl (.tmp 29) (.tmp 35) 81 rfl (w.heap.size + 1) 5 i0 (.int .u8 0) 1 1 Tryd.underlying81 hi hz0 hz1 hz2 rfl (by decide) _ _ _ rfl (HO2.out.alloc _) ⟨w2.heap.size, 0, none⟩ 2 2 [.int .u8 (H / 256), .int .u8 (H % 256)] rfl rfl (fun j u hj => two_new hj) (by intro u hu; simp at hu; rcases hu with rfl | rfl <;> rfl) (by unfold maxLen; omega) (by omega) (by simp; omega) ?_; intro v3 w3 hown3 hgrow3 _; refine Hid.out ?_)
    refine Lib.hid ?_
    have HO3 := Lib.hid (show w3.ownsRow (w.heap.size + 1) 5 1 v3 2 (Lib.byteCells [UInt8.ofNat (headN false xs.length / 256), UInt8.ofNat (headN false xs.length)]) by rw [head_cells HH.out hHb1]; simpa using hown3)
    have K3 := Lib.hid ((KG.out.alloc hsz2 _).grown hgrow3 (by simp; omega) (fun k hk => (HO2.out.lt k hk).1))
    obtain ⟨hc3, hf3⟩ := bcellB K3.out
    clear hown3 hgrow3 hc2 hf2
    go_wp2_with fail
    refine (lay_any (w.heap.size + 1) v3 2 _ A c xs _ HO3.out ((HD.out.below (below1 _ _)).below (show Below (w.alloc _).heap.size _ _ by simpa using K3.out)) HBASE.out (by have := K3.out.size; simpa using this) (by omega)).mono ?_
    rintro e w4 ⟨v4, rfl, hown4, hb4⟩
    have hcv := own_string hown4 (by simp [lay4_len]; omega) (by omega)
    have K4 := Lib.hid (K3.out.trans hb4)
    clear hown4 hb4 hc3 hf3
    go_wp2
    go_ret2
    exact ⟨rfl, (below1 w _).trans (K4.out.mono (by omega))⟩
  · have hH3 : 2 * (xs.length : Int) + 1 = H := by simpa using hH2.symm
    have hHb : 0 ≤ H ∧ H ≤ 801 := by omega
    obtain ⟨hHb0, hHb1⟩ := hHb
    have HEQ := Lib.hid hH3
    clear hH2 hH3
    go_enter Tryd.func37, Tryd.ntmps37
    go_wp2_with fail
    refine (RA.out _ (HD.out.below (below1 _ _))).mono ?_
    rintro e w1 ⟨rfl, hb⟩
    have K1 := Lib.hid (show Below (w.heap.size + 1) (w.alloc (.cells #[.bool true, .slice A xs.length c] 24)) w1 by simpa using hb)
    obtain ⟨hc, hf⟩ := bcellB K1.out
    have hsz : w.heap.size + 1 ≤ w1.heap.size := by have := K1.out.size; simpa using this
    clear hb
    go_upto_region 6 with fail
    rw [HEQ.out]
    have hlen : xs.length ≤ 400 := hl
    go_wp2_with (refine wpList_make_own _ rfl (.const (.int .i64 0)) (.tmp 27) 81 rfl (w.heap.size + 1) 5 i0 (.int .u8 0) 1 Tryd.underlying81 hi hz0 hz1 .i64 .i64 _ (2 + 4 * xs.length) rfl rfl (by push_cast; omega) (by rw [hz2]; omega) (by unfold maxLen; omega) hsz ?_; intro w2 hown2 hgrow2; refine Hid.out ?_)
    refine Lib.hid ?_
    have HO2 := Lib.hid hown2
    have KG := Lib.hid (K1.out.grown hgrow2 hsz (fun k hk => by cases hk))
    obtain ⟨hc2, hf2⟩ := bcellB KG.out
    have hsz2 : w.heap.size + 1 ≤ w2.heap.size := by have := KG.out.size; simpa using this
    clear hown2 hgrow2 hc hf
    go_wp2_with (at_builtin; refine wpList_append_own _ rfl (.tmp 29) (.tmp 35) 81 rfl (w.heap.size + 1) 5 i0 (.int .u8 0) 1 1 Tryd.underlying81 hi hz0 hz1 hz2 rfl (by decide) _ _ _ rfl (HO2.out.alloc _) ⟨w2.heap.size, 0, none⟩ 2 2 [.int .u8 (H / 256), .int .u8 (H % 256)] rfl rfl (fun j u hj => two_new hj) (by intro u hu; simp at hu; rcases hu with rfl | rfl <;> rfl) (by unfold maxLen; omega) (by omega) (by simp; omega) ?_; intro v3 w3 hown3 hgrow3 _; refine Hid.out ?_)
    refine Lib.hid ?_
    have HO3 := Lib.hid (show w3.ownsRow (w.heap.size + 1) 5 1 v3 2 (Lib.byteCells [UInt8.ofNat (headN true xs.length / 256), UInt8.ofNat (headN true xs.length)]) by rw [head_cells HH.out hHb1]; simpa using hown3)
    have K3 := Lib.hid ((KG.out.alloc hsz2 _).grown hgrow3 (by simp; omega) (fun k hk => (HO2.out.lt k hk).1))
    obtain ⟨hc3, hf3⟩ := bcellB K3.out
    clear hown3 hgrow3 hc2 hf2
    go_wp2_with fail
    refine (lay_any (w.heap.size + 1) v3 2 _ A c xs _ HO3.out ((HD.out.below (below1 _ _)).below (show Below (w.alloc _).heap.size _ _ by simpa using K3.out)) HBASE.out (by have := K3.out.size; simpa using this) (by omega)).mono ?_
    rintro e w4 ⟨v4, rfl, hown4, hb4⟩
    have hcv := own_string hown4 (by simp [lay4_len]; omega) (by omega)
    have K4 := Lib.hid (K3.out.trans hb4)
    clear hown4 hb4 hc3 hf3
    go_wp2
    go_ret2
    exact ⟨rfl, (below1 w _).trans (K4.out.mono (by omega))⟩
end Go.Proofs.YthgkdpfkaobgoaaDoor
end

section
/-
  strconv.FormatUint at base 10.
-/
namespace Go.Proofs.YthgkdpfkaobgoaaDoor
open Go.RowKit Go.Sort
def P10 (w : World) : Prop := Lib.TabIs Tryd.prog w "internal/strconv.uint64pow10" .u64 Lib.pow10Tab
set_option maxHeartbeats 4000000 in
set_option maxRecDepth 100000 in
theorem ifmt_any (u : Nat) (h1 : 1 ≤ u) (hu64 : u < 18446744073709551616) (w : World) (htab : P10 w) :
    Calls Tryd.prog 86 #[.int .u64 u, .int .i64 10] w fun e w' => e = .returned (.string ⟨(Lib.decDigits u).toArray⟩) ∧ Below w.heap.size w w' := by
  rcases Nat.lt_or_ge u 100 with hs | hs
  · have d0 : decide ((u : Int) < 100) = true := by simp; omega
    have hw := Lib.hid (IntWalk.wrap64_in (u : Int) (by omega))
    go_enter Tryd.func86, Tryd.ntmps86
    go_wp2_with fail
    refine (Tryd.internal_strconv_small u hs _).mono ?_
    rintro e w' ⟨rfl, rfl⟩
    go_wp2
    go_ret
    exact ⟨rfl, Below.refl _ _⟩
  · have d0 : decide ((u : Int) < 100) = false := by simp; omega
    have hnd20 : Lib.nDigits u ≤ 20 := by have := Lib.numDigits_eq u h1 hu64; split at this <;> omega
    have hal : Tryd.prog.arrayLen 116 = 24 := by simp [Program.arrayLen, Tryd.underlying116]
    have hsl1 : ∀ W, (Instr.sliceAt 116 (.pointer (some ⟨w.heap.size, 0, none⟩)) none (some (.int .i64 (Lib.nDigits u : Int))) none).run Tryd.prog W = .ok (.slice (some ⟨w.heap.size, 0, none⟩) (Lib.nDigits u) 24) W := fun W => by
      rw [run_sliceAt_array_h W 116 ⟨w.heap.size, 0, none⟩ (by simp [Program.arrayLen, Program.elem, Tryd.underlying116]) .i64 (Lib.nDigits u : Int) (by omega) (by rw [hal]; omega)]
      go_simp
    have hH0 := Lib.holds_zero0 w 116 (Lib.nDigits u) (by omega)
    have hfmt := Tryd.internal_strconv_formatBase10 w.heap.size 0 24 u (Array.replicate (Lib.nDigits u) 0) (w.alloc (.cells Lib.zeros24 116)) hH0 (by rw [Array.size_replicate]; exact Lib.lt_pow_nDigits u) hu64 (by rw [Array.size_replicate]; omega)
    rw [Array.size_replicate] at hfmt
    have HF := Lib.hid hfmt
    have HH0 := Lib.hid hH0
    clear hH0 hal hfmt
    have HND := Lib.hid (Tryd.internal_strconv_numDigits u h1 hu64 _ (Lib.tabIs_alloc htab (.cells Lib.zeros24 116)))
    clear htab
    go_enter Tryd.func86, Tryd.ntmps86
    go_wp2_with fail
    refine HND.out.mono ?_
    rintro e w' ⟨rfl, rfl⟩
    go_wp2_with fail
    refine HF.out.mono ?_
    rintro e w' ⟨rfl, k, v', dk, rfl, hF⟩
    have hcv : (convert 81 9 (.slice (some ⟨w.heap.size, 0, none⟩) (Lib.nDigits u) 24)).run Tryd.prog ((putRow (fun (b : UInt8) => Value.int .u8 (b.toNat : Int)) (w.alloc (.cells Lib.zeros24 116)) w.heap.size 0 dk).drewN k) = .ok (.string ⟨(Lib.decDigits u).toArray⟩) ((putRow (fun (b : UInt8) => Value.int .u8 (b.toNat : Int)) (w.alloc (.cells Lib.zeros24 116)) w.heap.size 0 dk).drewN k) := by
      have h := run_convert_bytes_back (P := Tryd.prog) ((putRow (fun (b : UInt8) => Value.int .u8 (b.toNat : Int)) (w.alloc (.cells Lib.zeros24 116)) w.heap.size 0 dk).drewN k) 81 9 5 ⟨w.heap.size, 0, none⟩ 24 (Lib.decDigits u) Tryd.underlying81 Tryd.underlying5 Tryd.underlying9 (fun j hj => by
        rw [Lib.row_is_numeral hF j hj, Lib.add_plain, World.cell?_drewN]
        exact cell?_putRow (fun (b : UInt8) => Value.int .u8 (b.toNat : Int)) _ w.heap.size 0 _ dk HH0.out (by rw [hF.size, Array.size_replicate]) j (by rw [hF.size]; rw [Lib.decDigits_length] at hj; exact hj))
      rw [Lib.decDigits_length] at h
      exact h
    go_wp2
    go_ret
    obtain ⟨os, eo⟩ := Lib.fin_at w (.cells Lib.zeros24 116) dk k 0
    exact ⟨rfl, by rw [eo]; exact Lib.below_grow _ _ (Nat.le_refl _) _ _⟩
set_option maxHeartbeats 1000000 in
set_option maxRecDepth 100000 in
theorem fmt_any (u : Nat) (h1 : 1 ≤ u) (hu64 : u < 18446744073709551616) (w : World) (htab : P10 w) :
    Calls Tryd.prog 70 #[.int .u64 u, .int .i64 10] w fun e w' => e = .returned (.string ⟨(Lib.decDigits u).toArray⟩) ∧ Below w.heap.size w w' := by
  have HC := Lib.hid (ifmt_any u h1 hu64 w htab)
  clear htab h1 hu64
  go_enter Tryd.func70, Tryd.ntmps70
  go_wp2_with fail
  refine HC.out.mono ?_
  rintro e w' ⟨rfl, hb⟩
  have HB := Lib.hid hb
  clear hb
  go_wp2
  go_ret
  exact ⟨rfl, HB.out⟩
end Go.Proofs.YthgkdpfkaobgoaaDoor
end

section
/-
  Rows of strings of the call's own: reversed, joined. zint.Text of a number of one part.
-/
namespace Go.Proofs.YthgkdpfkaobgoaaDoor
open Go.RowKit Go.Sort
theorem inter_nil : ∀ zs : List (List UInt8), List.intercalate [] zs = zs.flatten
  | [] => rfl
  | [z] => by simp [List.intercalate]
  | z :: z' :: zs => by
    have := inter_nil (z' :: zs)
    simp only [List.intercalate, List.intersperse_cons_cons, List.flatten_cons, List.nil_append] at this ⊢
    rw [this]
theorem rev_own (base : Nat) (v : Value) (n : Nat) (zs : List (List UInt8)) (w : World) (h : w.ownsRow base 9 1 v n (zs.map Proofs.encStr)) (hv : v ≠ .slice none 0 0) (hn : n ≤ 1000000) :
    Calls Tryd.prog 72 #[v] w fun e w' => e = .returned (.tuple #[]) ∧ w'.ownsRow base 9 1 v n (zs.reverse.map Proofs.encStr) ∧ Below base w w' := by
  obtain ⟨g, cap, rfl, hb, hg, hnc, hm, hl, hH⟩ := Lib.holds_of_ownsRow h hv
  subst hl
  refine (Tryd.slices_Reverse_string g 0 cap zs w hH (by omega)).mono ?_
  rintro e w' ⟨rfl, k, rfl⟩
  have h1 := Lib.ownsRow_putRow (q := k) h (ys := zs.reverse) (by simp) (Nat.le_refl _)
  have h2 := Lib.below_putRow (enc := Proofs.encStr) (q := k) (d := zs.reverse.toArray) (Below.refl base w) hb
  rw [List.take_of_length_le (by simp)] at h1
  exact ⟨rfl, h1, h2⟩
theorem join_own (base : Nat) (v : Value) (n : Nat) (zs : List (List UInt8)) (w : World) (h : w.ownsRow base 9 1 v n (zs.map Proofs.encStr)) (hv : v ≠ .slice none 0 0) (hn : n ≤ 1000000) (hlen : zs.flatten.length ≤ 1000000) :
    Calls Tryd.prog 73 #[v, .string ⟨#[]⟩] w fun e w' => e = .returned (.string ⟨zs.flatten.toArray⟩) ∧ Below w.heap.size w w' := by
  obtain ⟨g, cap, rfl, hb, hg, hnc, hm, hl, hH⟩ := Lib.holds_of_ownsRow h hv
  subst hl
  have ej : Lib.join ((zs.map fun l => (⟨l.toArray⟩ : ByteArray)).map (·.data.toList)) (⟨#[]⟩ : ByteArray).data.toList = zs.flatten := by
    rw [List.map_map]
    have e1 : ((fun x : ByteArray => x.data.toList) ∘ fun l : List UInt8 => (⟨l.toArray⟩ : ByteArray)) = id := by funext l; simp
    rw [e1, List.map_id]
    show List.intercalate [] zs = zs.flatten
    exact inter_nil zs
  have h1 := Tryd.strings_Join g 0 cap (zs.map fun l => (⟨l.toArray⟩ : ByteArray)) ⟨#[]⟩ w (fun j x hx => by
    rw [List.getElem?_map] at hx
    rcases hz : zs[j]? with _ | l
    · rw [hz] at hx; cases hx
    · rw [hz] at hx
      simp only [Option.map_some, Option.some.injEq] at hx
      subst hx
      have := h.cells (g := g) rfl j (Proofs.encStr l) (by rw [List.getElem?_map, hz]; rfl)
      rw [Addr.add_lit] at this
      exact this) hg (by simp; omega) (by simp; omega) (by rw [ej]; omega)
  rw [ej, List.length_map] at h1
  exact h1
end Go.Proofs.YthgkdpfkaobgoaaDoor
end

section
/-
  zint.Text of a number of one part.
-/
namespace Go.Proofs.YthgkdpfkaobgoaaDoor
open Go.RowKit Go.Sort
theorem elem9_info : (Tryd.prog.info? 9).map (fun i => (i.zero, i.size, i.bytes)) = some (some (.string ⟨#[]⟩), 1, 16) := by kernel_rfl
theorem one_new {w : World} {a : Value} {T : TypeId} {j : Nat} {u : Value} (hj : [a][j]? = some u) : (w.alloc (.cells #[a] T)).cell? ((⟨w.heap.size, 0, none⟩ : Addr).add j) = some u := by
  rw [Addr.add_lit, Nat.zero_add, cell_of_row _ _ _ _ _ _ (heap_alloc_new w _)]
  simpa using hj
theorem p10_below {w w' : World} (h : P10 w) (hb : Below w.heap.size w w') : P10 w' := Lib.tabBelow_of_tabIs h w' hb
def textOne (s : Bool) (x : Nat) : List UInt8 := (if s then [45] else []) ++ Lib.decDigits x
def lenOf : Value → Nat
  | .slice _ n _ => n
  | _ => 0
set_option maxHeartbeats 4000000 in
set_option maxRecDepth 100000 in
theorem ztext_one (A : Option Addr) (c : Nat) (s : Bool) (xs : List Nat) (w : World) (h : Dg w A c xs) (hl : xs.length ≤ 1000000) (h0 : 0 < val xs) (h1 : val xs < 1000000000) (htab : P10 w) :
    Calls Tryd.prog 41 #[.agg #[.bool s, .slice A xs.length c]] w fun e w' => e = .returned (.string ⟨(textOne s (val xs)).toArray⟩) ∧ Below w.heap.size w w' := by
  obtain ⟨i0, hi, hz0, hz1, hz2⟩ := info_parts elem9_info
  have TA := Lib.hid (fun W h => take_any A c s xs W h (by omega))
  have e1 : (s && decide (0 < val xs)) = s := by rw [decide_eq_true h0, Bool.and_true]
  rw [e1] at TA
  clear e1
  have HT := Lib.hid htab
  clear htab
  obtain ⟨x, hx⟩ : ∃ x, val xs = x := ⟨_, rfl⟩
  rw [hx] at TA h0 h1
  rw [hx]
  clear hx
  have d1 := digs_one (a := x) (by omega) (by omega)
  have EX := Lib.hid d1
  have hq0 : ((1 : Int) == 0) = false := rfl
  have D10 := digs_one (a := 1000000000) (by omega) (by omega)
  have DM := Lib.hid (fun (A1 B : Option Addr) (c1 d2 : Nat) (V : World) (h1 : Dg V A1 c1 (digs x)) (h2 : Dg V B d2 (digs 1000000000)) => divmod_any A1 B c1 d2 (digs x) (digs 1000000000) V h1 h2 (by rw [d1]; simp) (by rw [D10]; simp) (by rw [val_digs]; omega))
  simp only [val_digs] at DM
  rw [Nat.div_eq_of_lt h1, Nat.mod_eq_of_lt h1, digs_zero, d1, D10] at DM
  have SM := Lib.hid (fun (A1 : Option Addr) (c1 : Nat) (V : World) (h1 : Dg V A1 c1 (digs x)) => small_any A1 c1 (digs x) V h1 (by rw [d1]; simp))
  simp only [val_digs] at SM
  have hs : small? x = x := by unfold small?; rw [if_pos (by omega)]
  have hdd : decide (x < 18446744073709551616) = true := decide_eq_true (by omega)
  rw [hs, hdd, d1] at SM
  have FM := Lib.hid (fun V hv => fmt_any x h0 (by omega) V hv)
  rw [d1] at TA
  have HB := Lib.hid (And.intro h0 h1)
  clear d1 D10 hs hdd h0 h1
  go_enter Tryd.func41, Tryd.ntmps41
  go_wp2_with fail
  refine (TA.out _ (h.below (below1 _ _))).mono ?_
  rintro e w1 ⟨A1, c1, rfl, hd, hb⟩
  have K1 := Lib.hid ((below1 w _).trans (hb.mono (by simp)))
  have G1 := Lib.hid hd
  clear hb hd h TA
  go_wp2_with fail
  refine (zero_any A1 _ c1 _ false rfl).mono ?_
  rintro e w2 ⟨rfl, hb⟩
  have RX := Lib.hid (cells_of (heap_alloc_new w1 (.cells #[.slice A1 1 c1, .bool s] 59)) hb)
  have K2 := Lib.hid (K1.out.trans (((below1 _ _).trans (hb.mono (by simp))).mono K1.out.size))
  have G2 := Lib.hid ((G1.out.below (below1 w1 (.cells #[.slice A1 1 c1, .bool s] 59))).below hb)
  have z2 := heap_lt RX.out
  have f1 := cell_of_row w2 _ 0 _ _ _ RX.out
  have f2 := cell_of_row w2 _ 1 _ _ _ RX.out
  simp only [List.getElem?_toArray, List.getElem?_cons_zero, List.getElem?_cons_succ] at f1 f2
  clear hb
  go_wp2_with fail
  go_loopw [4, 5] (fun pv lv wr => Hid ((lv = .slice A1 1 c1 ∧ pv = .slice none 0 0 ∧ wr = w2) ∨ (∃ A' c', lv = .slice A' 0 c' ∧ pv ≠ .slice none 0 0 ∧ wr.ownsRow w2.heap.size 9 1 pv 1 ([Lib.decDigits x].map Proofs.encStr) ∧ Below w2.heap.size w2 wr))) (fun _ lv _ => lenOf lv)
  case atStart => exact Lib.hid (.inl ⟨rfl, rfl, rfl⟩)
  case round =>
    rcases hrel.out with ⟨rfl, rfl, rfl⟩ | ⟨A', c', rfl, hne, ho, hb⟩
    · clear hrel
      have HN := Lib.hid (Live.get (A := some ⟨wr.heap.size, 0, none⟩) (c := 1) (xs := [1000000000]) ((live_start wr).new1 1000000000 1000000000 rfl (by omega)) (by simp))
      go_wp2_with fail
      refine (DM.out A1 (some ⟨wr.heap.size, 0, none⟩) c1 1 _ (G2.out.below (below1 _ _)) HN.out).mono ?_
      rintro e w3 ⟨A3, c3, B3, d3, rfl, _, hd3, hb⟩
      have K3 := Lib.hid ((below1 _ _).trans (hb.mono (by simp)))
      have G3 := Lib.hid hd3
      clear hb hd3
      go_wp2_with fail
      refine (SM.out B3 d3 _ G3.out).mono ?_
      rintro e w4 ⟨rfl, nn, rfl⟩
      go_wp2_with fail
      refine (FM.out _ (p10_below HT.out (K2.out.trans ((below_drewN K3.out nn).mono K2.out.size)))).mono ?_
      rintro e w5 ⟨rfl, hb⟩
      have K5 := Lib.hid ((below_drewN K3.out nn).trans (hb.mono K3.out.size))
      have z5 := K5.out.size
      clear hb
      go_wp2_with (at_builtin; refine wpList_append_own _ rfl _ _ 84 rfl wr.heap.size 9 i0 (.string ⟨#[]⟩) 1 16 Tryd.underlying84 hi hz0 hz1 hz2 rfl (by decide) _ _ _ rfl (World.ownsRow_nil _ _ _ _) ⟨w5.heap.size, 0, none⟩ 1 1 [.string ⟨(Lib.decDigits x).toArray⟩] rfl rfl (fun j u hj => one_new hj) (by intro u hu; simp at hu; subst hu; rfl) (by unfold maxLen; omega) (by omega) (by simp; omega) ?_)
      intro v' w6 hown hgrow hnil
      have HO := Lib.hid (And.intro hown (show v' ≠ .slice none 0 0 by intro e; simp [e] at hnil))
      have K6 := Lib.hid ((K5.out.alloc z5 (.cells #[.string ⟨(Lib.decDigits x).toArray⟩] 9)).grown hgrow (by simp; omega) (fun k hk => by cases hk))
      clear hown hgrow hnil
      go_wp2
      go_roundw
      case rel => exact Lib.hid (.inr ⟨_, _, rfl, HO.out.2, by simpa using HO.out.1, K6.out⟩)
      case measure => simp [lenOf]
    · clear hrel
      have HO := Lib.hid (And.intro ho hne)
      have K7 := Lib.hid hb
      have g1 := cell_of_row wr _ 0 _ _ _ (cells_of RX.out hb)
      have g2 := cell_of_row wr _ 1 _ _ _ (cells_of RX.out hb)
      simp only [List.getElem?_toArray, List.getElem?_cons_zero, List.getElem?_cons_succ] at g1 g2
      have z7 := hb.size
      clear ho hne hb f1 f2
      cases s
      · go_wp2_with fail
        refine (rev_own w2.heap.size u4 1 [Lib.decDigits x] _ HO.out.1 HO.out.2 (by omega)).mono ?_
        rintro e w8 ⟨rfl, hown, hb⟩
        have HO8 := Lib.hid hown
        have K8 := Lib.hid (K7.out.trans hb)
        clear hown hb g1 g2
        go_wp2_with fail
        refine (join_own w2.heap.size u4 1 _ _ HO8.out HO.out.2 (by omega) (by simp; rw [Lib.decDigits_length]; have := Lib.nDigits_le20 x (by have := HB.out.2; omega); omega)).mono ?_
        rintro e w9 ⟨rfl, hb⟩
        have K9 := Lib.hid (K2.out.trans ((K8.out.trans (hb.mono K8.out.size)).mono K2.out.size))
        clear hb
        go_wp2
        go_ret
        exact ⟨by simp [textOne], K9.out⟩
      · go_wp2_with (at_builtin; refine wpList_append_own _ rfl _ _ 84 rfl w2.heap.size 9 i0 (.string ⟨#[]⟩) 1 16 Tryd.underlying84 hi hz0 hz1 hz2 rfl (by decide) _ _ _ rfl (HO.out.1.alloc _) ⟨wr.heap.size, 0, none⟩ 1 1 [.string ⟨#[45]⟩] rfl rfl (fun j u hj => one_new hj) (by intro u hu; simp at hu; subst hu; rfl) (by unfold maxLen; omega) (by omega) (by simp; omega) ?_; intro v' w7 hown hgrow hnil; refine Hid.out ?_)
        refine Lib.hid ?_
        have HO7 := Lib.hid (And.intro (show w7.ownsRow w2.heap.size 9 1 v' 2 ([Lib.decDigits x, [45]].map Proofs.encStr) from hown) (show v' ≠ .slice none 0 0 by intro e; simp [e] at hnil))
        have K7b := Lib.hid ((K7.out.alloc z7 (.cells #[.string ⟨#[45]⟩] 9)).grown hgrow (by simp; omega) (fun k hk => (HO.out.1.lt k hk).1))
        clear hown hgrow hnil g1 g2
        go_wp2_with fail
        refine (rev_own w2.heap.size v' 2 [Lib.decDigits x, [45]] _ HO7.out.1 HO7.out.2 (by omega)).mono ?_
        rintro e w8 ⟨rfl, hown, hb⟩
        have HO8 := Lib.hid hown
        have K8 := Lib.hid (K7b.out.trans hb)
        clear hown hb
        go_wp2_with fail
        refine (join_own w2.heap.size v' 2 _ _ HO8.out HO7.out.2 (by omega) (by simp; rw [Lib.decDigits_length]; have := Lib.nDigits_le20 x (by have := HB.out.2; omega); omega)).mono ?_
        rintro e w9 ⟨rfl, hb⟩
        have K9 := Lib.hid (K2.out.trans ((K8.out.trans (hb.mono K8.out.size)).mono K2.out.size))
        clear hb
        go_wp2
        go_ret
        exact ⟨by simp [textOne], K9.out⟩
end Go.Proofs.YthgkdpfkaobgoaaDoor
end

section
/-
  astrolaberef04's Right, From.
-/
namespace Go.Proofs.YthgkdpfkaobgoaaDoor
open Go.RowKit
set_option maxHeartbeats 1000000 in
set_option maxRecDepth 100000 in
theorem rright_any (A : Option Addr) (c : Nat) (s : Bool) (xs : List Nat) (w : World) (h : Dg w A c xs) (q : Bool) (hq : rightB s xs = q) (hl : xs.length ≤ 9223372036854775807) :
    Calls Tryd.prog 32 #[.agg #[.bool s, .slice A xs.length c]] w fun e w' => e = .returned (.bool q) ∧ Below w.heap.size w w' := by
  by_cases h0 : xs.length = 0
  · have t0 : ((xs.length : Int) == 0) = true := by rw [h0]; rfl
    have t1 : decide (0 < xs.length) = false := by rw [h0]; rfl
    have HQ := Lib.hid (show (!s) = q by rw [← hq]; unfold rightB; rw [if_pos h0])
    clear h h0 hq
    cases s
    all_goals
      go_enter Tryd.func32, Tryd.ntmps32
      go_wp2
      go_ret
      exact ⟨by rw [← HQ.out]; rfl, below1 _ _⟩
  · have t0 : ((xs.length : Int) == 0) = false := beq_eq_false_iff_ne.2 (by omega)
    have t1 : decide (0 < xs.length) = true := by simp; omega
    obtain ⟨b, off, hA, hb, hc⟩ := h.2.2 (by omega)
    have hx := hc (xs.length - 1) (by omega)
    have hp : 0 < xs.length := by omega
    have hq' : decide (xs[xs.length - 1]?.getD 0 ≠ 0) = q := by rw [← hq]; unfold rightB; rw [if_neg h0]
    generalize xs[xs.length - 1]?.getD 0 = x at *
    have hxq : ((x : Int) != 0) = q := by
      rw [← hq', Bool.eq_iff_iff]; simp
    have HX := Lib.hid hxq
    clear h h0 hq hc hq' hxq
    subst hA
    go_enter Tryd.func32, Tryd.ntmps32
    go_wp2
    go_ret
    refine ⟨?_, below1 _ _⟩
    rw [← HX.out]
    rfl
set_option maxHeartbeats 2000000 in
set_option maxRecDepth 100000 in
theorem rzfrom_any (n : Int) (w : World) (h0 : -9223372036854775808 ≤ n) (h1 : n ≤ 9223372036854775807) :
    Calls Tryd.prog 24 #[.int .i64 n] w fun e w' => Zr n w e w' := by
  have lf := digs_small (n := n.natAbs) (by omega)
  by_cases hn : n < 0
  · have d0 : decide (n < 0) = true := by simp [hn]
    have TM := Lib.hid (fun A' c' W h => rmake_any A' c' true (digs n.natAbs) W h (by omega))
    rw [val_digs, show sg true n.natAbs = n by unfold sg; simp; omega] at TM
    go_enter Tryd.func24, Tryd.ntmps24
    go_wp2_with fail
    refine (rfrom_l (i := _) (k := n.natAbs) (live_start _) (by first | omega | (simp only [wrap_u64_eq]; omega)) (by omega)).mono ?_
    rintro e w1 ⟨A1, c1, rfl, hL⟩
    have K1 := Lib.hid hL.1
    have G1 := Lib.hid (hL.get (A := A1) (c := c1) (xs := digs n.natAbs) (by simp))
    clear hL
    go_wp2_with fail
    refine (TM.out A1 c1 _ G1.out).mono ?_
    rintro e w2 ⟨A2, c2, rfl, hd, hb⟩
    have K2 := Lib.hid (K1.out.trans (hb.mono K1.out.size))
    have G2 := Lib.hid hd
    have HO2 := Lib.hid (off_box (g := w.heap.size) hd K2.out rfl noint2')
    obtain ⟨hc2, hf2⟩ := bcell K2.out
    clear hb hd
    go_wp2
    refine bodyPost_ret (v := .agg #[.bool true, .slice A2 (digs n.natAbs).length c2]) (by simp [results, Tryd.results24, go_sem, hc2]) rfl ?_
    exact ⟨A2, c2, by rw [d0], (G2.out.set_off HO2.out _ _).set_off HO2.out _ _, (((below1 w _).trans (K2.out.mono (by simp))).setCell (by simp) _).setCell (by simp) _⟩
  · have d0 : decide (n < 0) = false := by simp; omega
    have TM := Lib.hid (fun A' c' W h => rmake_any A' c' false (digs n.natAbs) W h (by omega))
    rw [val_digs, show sg false n.natAbs = n by unfold sg; simp; omega] at TM
    go_enter Tryd.func24, Tryd.ntmps24
    go_wp2_with fail
    refine (rfrom_l (i := _) (k := n.natAbs) (live_start _) (by first | omega | (simp only [wrap_u64_eq]; omega)) (by omega)).mono ?_
    rintro e w1 ⟨A1, c1, rfl, hL⟩
    have K1 := Lib.hid hL.1
    have G1 := Lib.hid (hL.get (A := A1) (c := c1) (xs := digs n.natAbs) (by simp))
    clear hL
    go_wp2_with fail
    refine (TM.out A1 c1 _ G1.out).mono ?_
    rintro e w2 ⟨A2, c2, rfl, hd, hb⟩
    have K2 := Lib.hid (K1.out.trans (hb.mono K1.out.size))
    have G2 := Lib.hid hd
    have HO2 := Lib.hid (off_box (g := w.heap.size) hd K2.out rfl noint2')
    obtain ⟨hc2, hf2⟩ := bcell K2.out
    clear hb hd
    go_wp2
    refine bodyPost_ret (v := .agg #[.bool false, .slice A2 (digs n.natAbs).length c2]) (by simp [results, Tryd.results24, go_sem, hc2]) rfl ?_
    exact ⟨A2, c2, by rw [d0], (G2.out.set_off HO2.out _ _).set_off HO2.out _ _, (((below1 w _).trans (K2.out.mono (by simp))).setCell (by simp) _).setCell (by simp) _⟩
end Go.Proofs.YthgkdpfkaobgoaaDoor
end

section
/-
  astrolaberef04's Bytes.
-/
namespace Go.Proofs.YthgkdpfkaobgoaaDoor
open Go.RowKit
set_option maxHeartbeats 2000000 in
set_option maxRecDepth 100000 in
theorem rzbytes_no (A : Option Addr) (c : Nat) (s : Bool) (xs : List Nat) (w : World) (h : Dg w A c xs) (hl : xs.length ≤ 9223372036854775807) (hno : rightB s xs = false ∨ 400 < xs.length) :
    Calls Tryd.prog 38 #[.agg #[.bool s, .slice A xs.length c]] w fun e w' => e = .returned (.tuple #[.string ⟨#[]⟩, .bool false]) ∧ Below w.heap.size w w' := by
  have RA := Lib.hid (fun W h q hq => rright_any A c s xs W h q hq hl)
  cases hr : rightB s xs
  · have HR := Lib.hid hr
    clear hno hr
    go_enter Tryd.func38, Tryd.ntmps38
    go_wp2_with fail
    refine (RA.out _ (h.below (below1 _ _)) false HR.out).mono ?_
    rintro e w1 ⟨rfl, hb⟩
    have K1 := Lib.hid ((below1 w _).trans (hb.mono (by simp)))
    clear hb
    go_wp2
    go_ret2
    exact ⟨rfl, K1.out⟩
  · have HR := Lib.hid hr
    have h4 : 400 < xs.length := hno.resolve_left (by rw [hr]; simp)
    have d4 : decide ((400 : Int) < (xs.length : Int)) = true := by simp; omega
    clear hno hr h4
    go_enter Tryd.func38, Tryd.ntmps38
    go_wp2_with fail
    refine (RA.out _ (h.below (below1 _ _)) true HR.out).mono ?_
    rintro e w1 ⟨rfl, hb⟩
    have K1 := Lib.hid ((below1 w _).trans (hb.mono (by simp)))
    obtain ⟨hc, hf⟩ := bcell hb
    clear hb
    go_wp2
    go_ret2
    exact ⟨rfl, K1.out⟩
set_option maxHeartbeats 2000000 in
set_option maxRecDepth 100000 in
theorem rzbytes_any (A : Option Addr) (c : Nat) (s : Bool) (xs : List Nat) (w : World) (h : Dg w A c xs) (hl : xs.length ≤ 400) (hr : rightB s xs = true) :
    Calls Tryd.prog 38 #[.agg #[.bool s, .slice A xs.length c]] w fun e w' => e = .returned (.tuple #[.string ⟨(zbytes s xs).toArray⟩, .bool true]) ∧ Below w.heap.size w w' := by
  have RA := Lib.hid (fun W h => rright_any A c s xs W h true hr (by omega))
  obtain ⟨i0, hi, hz0, hz1, hz2⟩ := info_parts elem8_info
  have d4 : decide ((400 : Int) < (xs.length : Int)) = false := by simp; omega
  clear hr
  have HD := Lib.hid h
  clear h
  obtain ⟨H, hH⟩ : ∃ H : Int, ((headN s xs.length : Nat) : Int) = H := ⟨_, rfl⟩
  have HH := Lib.hid hH
  have hH2 : H = 2 * (xs.length : Int) + (if s then 1 else 0) := by rw [← hH]; unfold headN; cases s <;> simp
  clear hH
  cases s
  · have hH3 : 2 * (xs.length : Int) = H := by simpa using hH2.symm
    have hHb : 0 ≤ H ∧ H ≤ 801 := by omega
    obtain ⟨hHb0, hHb1⟩ := hHb
    have HEQ := Lib.hid hH3
    clear hH2 hH3
    go_enter Tryd.func38, Tryd.ntmps38
    go_wp2_with fail
    refine (RA.out _ (HD.out.below (below1 _ _))).mono ?_
    rintro e w1 ⟨rfl, hb⟩
    have K1 := Lib.hid (show Below (w.heap.size + 1) (w.alloc (.cells #[.bool false, .slice A xs.length c] 24)) w1 by simpa using hb)
    obtain ⟨hc, hf⟩ := bcellB K1.out
    have hsz : w.heap.size + 1 ≤ w1.heap.size := by have := K1.out.size; simpa using this
    clear hb
    go_upto_region 7 with fail
    rw [HEQ.out]
    go_wp2_with fail
    have HW := Lib.hid (show (w1.alloc (.cells #[.int .u8 (H / 256), .int .u8 (H % 256)] 5)).ownsRow (w.heap.size + 1) 5 1 (.slice (some ⟨w1.heap.size, 0, none⟩) 2 2) 2 (Lib.byteCells [UInt8.ofNat (headN false xs.length / 256), UInt8.ofNat (headN false xs.length)]) by
      rw [head_cells HH.out hHb1]
      exact World.ownsRow_lit w1 #[.int .u8 (H / 256), .int .u8 (H % 256)] 2 hsz (by unfold maxLen; omega) rfl)
    have KW := Lib.hid (K1.out.alloc hsz (.cells #[.int .u8 (H / 256), .int .u8 (H % 256)] 5))
    clear hc hf
    generalize w1.alloc (.cells #[.int .u8 (H / 256), .int .u8 (H % 256)] 5) = w2 at *
    go_loopw [6, 7] (fun v i wr => ∃ k : Nat, k ≤ xs.length ∧ i = .int .i64 k ∧ Hid (wr.ownsRow (w.heap.size + 1) 5 1 v (2 + 4 * k) (Lib.byteCells ([UInt8.ofNat (headN false xs.length / 256), UInt8.ofNat (headN false xs.length)] ++ lay4 (xs.take k)))) ∧ Hid (Below (w.heap.size + 1) (w.alloc (.cells #[.bool false, .slice A xs.length c] 24)) wr)) (fun _ i _ => xs.length - (intOf i).toNat)
    case atStart => exact ⟨0, Nat.zero_le _, rfl, Lib.hid (by simpa [lay4] using HW.out), KW⟩
    case round =>
      obtain ⟨k, hk, rfl, ho, hb⟩ := hrel
      obtain ⟨hc, hf⟩ := bcellB hb.out
      have hsz2 : w.heap.size + 1 ≤ wr.heap.size := by have := hb.out.size; simpa using this
      by_cases hlt : k < xs.length
      · obtain ⟨b, off, hD, hbl, hcell⟩ := HD.out.2.2 (by omega)
        have hcx := ((below1 w (.cells #[.bool false, .slice A xs.length c] 24)).trans (hb.out.mono (by omega))).cell (p := ⟨b, off + k, none⟩) hbl |>.trans (hcell k hlt)
        have hx := getD_lt HD.out.2.1 k
        have HX := Lib.hid hx
        generalize hxk : xs[k]?.getD 0 = x at *
        have HXK := Lib.hid hxk
        clear hcell hxk hx
        generalize hX : ((x : Nat) : Int) = X at *
        have i0' : 0 ≤ X := by omega
        have i1' : X < 4294967296 := by have := HX.out; omega
        have HXX := Lib.hid hX
        clear hX
        have hkc : k ≤ c := by have := HD.out.1; omega
        subst hD
        go_wp2_with (at_builtin; refine wpList_append_own _ rfl _ _ 81 rfl (w.heap.size + 1) 5 i0 (.int .u8 0) 1 1 Tryd.underlying81 hi hz0 hz1 hz2 rfl (by decide) _ _ _ rfl (ho.out.alloc _) ⟨wr.heap.size, 0, none⟩ 4 4 [.int .u8 (X % 256), .int .u8 (X / 256 % 256), .int .u8 (X / 65536 % 256), .int .u8 (X / 16777216)] rfl rfl (fun j u hj => four_new hj) (by intro u hu; simp at hu; rcases hu with rfl | rfl | rfl | rfl <;> rfl) (by unfold maxLen; omega) (by omega) (by simp; omega) ?_)
        intro v' w4 hown1 hgrow _
        have HN := Lib.hid hown1
        have HB1 := Lib.hid ((hb.out.alloc hsz2 _).grown hgrow (by simp; omega) (fun k hk => (ho.out.lt k hk).1))
        clear hown1 hgrow hc hf
        go_wp2
        go_roundw
        case rel =>
          refine ⟨k + 1, by omega, by go_num, Lib.hid ?_, HB1⟩
          rw [lay4_take hlt, HXK.out, ← List.append_assoc, byteCells_add, d4_cells HXX.out HX.out]
          exact HN.out
        case measure => simp [intOf]; omega
      · have hkl : k = xs.length := by omega
        subst hkl
        have e : xs.take xs.length = xs := List.take_length
        rw [e] at ho
        have hcv := own_string ho.out (by simp [lay4_len]; omega) (by omega)
        have KZ := Lib.hid hb.out
        clear ho hb e
        go_wp2
        go_ret2
        exact ⟨rfl, (below1 w _).trans (KZ.out.mono (by omega))⟩
  · have hH3 : 2 * (xs.length : Int) + 1 = H := by simpa using hH2.symm
    have hHb : 0 ≤ H ∧ H ≤ 801 := by omega
    obtain ⟨hHb0, hHb1⟩ := hHb
    have HEQ := Lib.hid hH3
    clear hH2 hH3
    go_enter Tryd.func38, Tryd.ntmps38
    go_wp2_with fail
    refine (RA.out _ (HD.out.below (below1 _ _))).mono ?_
    rintro e w1 ⟨rfl, hb⟩
    have K1 := Lib.hid (show Below (w.heap.size + 1) (w.alloc (.cells #[.bool true, .slice A xs.length c] 24)) w1 by simpa using hb)
    obtain ⟨hc, hf⟩ := bcellB K1.out
    have hsz : w.heap.size + 1 ≤ w1.heap.size := by have := K1.out.size; simpa using this
    clear hb
    go_upto_region 7 with fail
    rw [HEQ.out]
    go_wp2_with fail
    have HW := Lib.hid (show (w1.alloc (.cells #[.int .u8 (H / 256), .int .u8 (H % 256)] 5)).ownsRow (w.heap.size + 1) 5 1 (.slice (some ⟨w1.heap.size, 0, none⟩) 2 2) 2 (Lib.byteCells [UInt8.ofNat (headN true xs.length / 256), UInt8.ofNat (headN true xs.length)]) by
      rw [head_cells HH.out hHb1]
      exact World.ownsRow_lit w1 #[.int .u8 (H / 256), .int .u8 (H % 256)] 2 hsz (by unfold maxLen; omega) rfl)
    have KW := Lib.hid (K1.out.alloc hsz (.cells #[.int .u8 (H / 256), .int .u8 (H % 256)] 5))
    clear hc hf
    generalize w1.alloc (.cells #[.int .u8 (H / 256), .int .u8 (H % 256)] 5) = w2 at *
    go_loopw [6, 7] (fun v i wr => ∃ k : Nat, k ≤ xs.length ∧ i = .int .i64 k ∧ Hid (wr.ownsRow (w.heap.size + 1) 5 1 v (2 + 4 * k) (Lib.byteCells ([UInt8.ofNat (headN true xs.length / 256), UInt8.ofNat (headN true xs.length)] ++ lay4 (xs.take k)))) ∧ Hid (Below (w.heap.size + 1) (w.alloc (.cells #[.bool true, .slice A xs.length c] 24)) wr)) (fun _ i _ => xs.length - (intOf i).toNat)
    case atStart => exact ⟨0, Nat.zero_le _, rfl, Lib.hid (by simpa [lay4] using HW.out), KW⟩
    case round =>
      obtain ⟨k, hk, rfl, ho, hb⟩ := hrel
      obtain ⟨hc, hf⟩ := bcellB hb.out
      have hsz2 : w.heap.size + 1 ≤ wr.heap.size := by have := hb.out.size; simpa using this
      by_cases hlt : k < xs.length
      · obtain ⟨b, off, hD, hbl, hcell⟩ := HD.out.2.2 (by omega)
        have hcx := ((below1 w (.cells #[.bool true, .slice A xs.length c] 24)).trans (hb.out.mono (by omega))).cell (p := ⟨b, off + k, none⟩) hbl |>.trans (hcell k hlt)
        have hx := getD_lt HD.out.2.1 k
        have HX := Lib.hid hx
        generalize hxk : xs[k]?.getD 0 = x at *
        have HXK := Lib.hid hxk
        clear hcell hxk hx
        generalize hX : ((x : Nat) : Int) = X at *
        have i0' : 0 ≤ X := by omega
        have i1' : X < 4294967296 := by have := HX.out; omega
        have HXX := Lib.hid hX
        clear hX
        have hkc : k ≤ c := by have := HD.out.1; omega
        subst hD
        go_wp2_with (at_builtin; refine wpList_append_own _ rfl _ _ 81 rfl (w.heap.size + 1) 5 i0 (.int .u8 0) 1 1 Tryd.underlying81 hi hz0 hz1 hz2 rfl (by decide) _ _ _ rfl (ho.out.alloc _) ⟨wr.heap.size, 0, none⟩ 4 4 [.int .u8 (X % 256), .int .u8 (X / 256 % 256), .int .u8 (X / 65536 % 256), .int .u8 (X / 16777216)] rfl rfl (fun j u hj => four_new hj) (by intro u hu; simp at hu; rcases hu with rfl | rfl | rfl | rfl <;> rfl) (by unfold maxLen; omega) (by omega) (by simp; omega) ?_)
        intro v' w4 hown1 hgrow _
        have HN := Lib.hid hown1
        have HB1 := Lib.hid ((hb.out.alloc hsz2 _).grown hgrow (by simp; omega) (fun k hk => (ho.out.lt k hk).1))
        clear hown1 hgrow hc hf
        go_wp2
        go_roundw
        case rel =>
          refine ⟨k + 1, by omega, by go_num, Lib.hid ?_, HB1⟩
          rw [lay4_take hlt, HXK.out, ← List.append_assoc, byteCells_add, d4_cells HXX.out HX.out]
          exact HN.out
        case measure => simp [intOf]; omega
      · have hkl : k = xs.length := by omega
        subst hkl
        have e : xs.take xs.length = xs := List.take_length
        rw [e] at ho
        have hcv := own_string ho.out (by simp [lay4_len]; omega) (by omega)
        have KZ := Lib.hid hb.out
        clear ho hb e
        go_wp2
        go_ret2
        exact ⟨rfl, (below1 w _).trans (KZ.out.mono (by omega))⟩
end Go.Proofs.YthgkdpfkaobgoaaDoor
end
