import Derived.Test.YtaciohjobenipaaDoorMB4
import Derived.Test.YtaciohjobenipaaDoorMB2
import Derived.Test.YtaciohjobenipaaDoorMB3
import Derived.Test.YtaciohjobenipaaDoorMB1
import Derived.Test.YtaciohjobenipaaDoorRows
import Derived.Test.YtaciohjobenipaaDoorMB0
import Derived.WalkKit
import Derived.ProofKit
import Derived.OpenShut
import Derived.ChangeSame
import Derived.LaidMore
import Derived.Stop.Joined
import Derived.Stop.LaidErr
import Derived.Lib.SmallJoins
section
/-
  ref05: Sub, Mul, Scale of any numbers.
-/
namespace Go.Proofs.YtaciohjobenipaaDoor
open Go.RowKit
set_option linter.unusedSimpArgs false
set_option linter.unusedVariables false
set_option maxHeartbeats 4000000 in
set_option maxRecDepth 100000 in
theorem r5sub_t (A B : Option Addr) (c d : Nat) (m n x y : Int) (M E : Int) (w : World) (h : Dg w A c (digs m.natAbs)) (h' : Dg w B d (digs n.natAbs)) (hl : (digs m.natAbs).length ≤ 10000) (hl' : (digs n.natAbs).length ≤ 10000) (r1 : Rt m x) (r2 : Rt n y) (hs : IsD (dv m x - dv n y) M E) {K F V : Int} (hq : tot M E = (K, F, V)):
    Calls Tryd.prog 26 #[.agg #[.bool (decide (m < 0)), .slice A (digs m.natAbs).length c, .int .i64 x], .agg #[.bool (decide (n < 0)), .slice B (digs n.natAbs).length d, .int .i64 y]] w fun e w' => Ye K F V w e w' := by
  have HR1 := Lib.hid r1
  have HR2 := Lib.hid r2
  have lx := Lib.hid hl
  have ly := Lib.hid hl'
  have HQ := Lib.hid hq
  obtain ⟨k, hk⟩ : ∃ k, -n = k := ⟨_, rfl⟩
  have rk := Lib.hid (hk ▸ rt_neg r2)
  have lk := Lib.hid (show (digs k.natAbs).length ≤ 10000 by rw [← hk, Int.natAbs_neg]; exact hl')
  have HS := Lib.hid (show IsD (dv m x + dv k y) M E by rw [← hk, dv_neg, ← Rat.sub_eq_add_neg]; exact hs)
  have HK := Lib.hid hk
  have L0 := Lib.hid (((live_start w).add h).add h')
  clear h h' hl hl' r1 r2 hs hq hk
  go_enter Tryd.func26, Tryd.ntmps26
  go_wp2_with fail
  obtain ⟨v1, hW, hb, Rx_1, Ry_1, Rr_1⟩ := new3 w (.cells #[.bool (decide (m < 0)), .slice A (digs m.natAbs).length c, .int .i64 x] 26) (.cells #[.bool (decide (n < 0)), .slice B (digs n.natAbs).length d, .int .i64 y] 26) (.cells #[.bool false, .slice none 0 0, .int .i64 0] 26)
  rw [← hW]
  have L1 := ls L0 hb
  have Gx := gl0 L0.out
  have Gy := gl1 L0.out
  have Nxy : w.heap.size < w.heap.size + 1 := by omega
  have Gr := gl2 L0.out
  have Nxr : w.heap.size < w.heap.size + 1 + 1 := by omega
  have Nyr : w.heap.size + 1 < w.heap.size + 1 + 1 := by omega
  clear hW hb
  refine (r5right_t (L1.out.get (A := B) (c := d) (xs := digs n.natAbs) (by simp)) ly.out HR2.out).mono ?_
  rintro e w2 ⟨rfl, hb⟩
  have L2 := ls L1 hb
  have Rx_2 := co Rx_1 hb
  have Ry_2 := co Ry_1 hb
  have Rr_2 := co Rr_1 hb
  clear hb 
  obtain ⟨fx0, zx0, fx1, zx1, fx2, zx2, xx⟩ := ly3 Rx_2.out
  obtain ⟨fy0, zy0, fy1, zy1, fy2, zy2, xy⟩ := ly3 Ry_2.out
  obtain ⟨fr0, zr0, fr1, zr1, fr2, zr2, xr⟩ := ly3 Rr_2.out
  go_wp2_with fail
  clear fx0 zx0 fx1 zx1 fx2 zx2 xx fy0 zy0 fy1 zy1 fy2 zy2 xy fr0 zr0 fr1 zr1 fr2 zr2 xr
  obtain ⟨fx0, zx0, fx1, zx1, fx2, zx2, xx⟩ := ly3 Rx_2.out
  obtain ⟨fy0, zy0, fy1, zy1, fy2, zy2, xy⟩ := ly3 Ry_2.out
  have KD := Lib.hid (bd0 w2)
  have LD := ls L2 KD.out
  have Mx : w.heap.size ≠ w.heap.size + 1 + 1 := by omega
  have My : w.heap.size + 1 ≠ w.heap.size + 1 + 1 := by omega
  go_region_held3 (fun w' => (∀ o, w'.cell? ⟨w.heap.size, o, none⟩ = w2.cell? ⟨w.heap.size, o, none⟩) ∧ (∀ o, w'.cell? ⟨w.heap.size + 1, o, none⟩ = w2.cell? ⟨w.heap.size + 1, o, none⟩))
    (first | with_reducible exact ⟨keep_b KD.out xx, keep_b KD.out xy⟩ | with_reducible exact ⟨keep_b K4.out xx, keep_b K4.out xy⟩ | with_reducible exact ⟨keep_b K5.out xx, keep_b K5.out xy⟩ | exact ⟨(keep_set (keep_b K5.out xx) Mx), (keep_set (keep_b K5.out xy) My)⟩ | exact ⟨(keep_set (keep_set (keep_b K5.out xx) Mx) Mx), (keep_set (keep_set (keep_b K5.out xy) My) My)⟩ | exact ⟨(keep_set (keep_set (keep_set (keep_b K5.out xx) Mx) Mx) Mx), (keep_set (keep_set (keep_set (keep_b K5.out xy) My) My) My)⟩)
    (first
      | (go_at_call 16; (with_reducible refine (r5neg_t B d n y k _ (LD.out.get (A := B) (c := d) (xs := digs n.natAbs) (by simp)) ly.out HR2.out HK.out).mono ?_); rintro e w4 ⟨A4, c4, rfl, hd, hb⟩; (have K4 := bt KD hb); (have L4 := la LD hb hd); clear hb hd)
      | (go_at_call 24; (with_reducible refine (r5add_t (L4.out.get (A := A) (c := c) (xs := digs m.natAbs) (by simp)) (L4.out.get (A := A4) (c := c4) (xs := digs k.natAbs) (by simp)) lx.out lk.out HR1.out rk.out HS.out HQ.out).mono ?_); rintro e w5 ⟨A5, c5, rfl, hd, hb⟩; (have K5 := bt K4 hb); (have L5 := la L4 hb hd); (have qr0_K5 := row_c (i := 0) (co Rr_2 K5.out).out rfl); (have pr0_K5 := frozen_of_row _ _ 0 _ _ (cells_of Rr_2.out K5.out)); (have qr1_K5 := row_c (i := 1) (co Rr_2 K5.out).out rfl); (have pr1_K5 := frozen_of_row _ _ 1 _ _ (cells_of Rr_2.out K5.out)); (have qr2_K5 := row_c (i := 2) (co Rr_2 K5.out).out rfl); (have pr2_K5 := frozen_of_row _ _ 2 _ _ (cells_of Rr_2.out K5.out)); clear hb hd))
  rename_i hHeld
  clear hHeld
  clear fx0 zx0 fx1 zx1 fx2 zx2 xx fy0 zy0 fy1 zy1 fy2 zy2 xy
  have Rx_5 := co Rx_2 K5.out
  have Ry_5 := co Ry_2 K5.out
  have Rr_5 := co Rr_2 K5.out
  obtain ⟨fr0, zr0, fr1, zr1, fr2, zr2, xr⟩ := ly3 Rr_5.out
  go_wp2
  refine bodyPost_ret (v := .tuple #[.agg #[.bool (decide (K < 0)), .slice A5 (digs K.natAbs).length c5, .int .i64 F], .int .i64 V]) (by simp [results, Tryd.results26, go_sem, fr0, fr1, fr2]) rfl ?_
  
  refine ⟨A5, c5, rfl, ?_, ?_⟩
  · exact (fin3 L5.out Rr_5.out noint3 Gr).get (A := A5) (c := c5) (xs := digs K.natAbs) (by simp)
  · exact (fin3 L5.out Rr_5.out noint3 Gr).1

set_option maxHeartbeats 4000000 in
set_option maxRecDepth 100000 in
theorem r5sub_w (A B : Option Addr) (c d : Nat) (s : Bool) (xs : List Nat) (x : Int) (r : Bool) (ys : List Nat) (y : Int) (w : World) (h : Dg w A c xs) (hl : xs.length ≤ 9223372036854775807) (h' : Dg w B d ys) (hl' : ys.length ≤ 9223372036854775807) (hq : dyR r ys y = false):
    Calls Tryd.prog 26 #[.agg #[.bool s, .slice A xs.length c, .int .i64 x], .agg #[.bool r, .slice B ys.length d, .int .i64 y]] w fun e w' => Ye 0 0 1 w e w' := by
  have lx := Lib.hid hl
  have ly := Lib.hid hl'
  have HQ := Lib.hid hq
  have L0 := Lib.hid (((live_start w).add h).add h')
  clear h h' hl hl' hq
  go_enter Tryd.func26, Tryd.ntmps26
  go_wp2_with fail
  obtain ⟨v1, hW, hb, Rx_1, Ry_1, Rr_1⟩ := new3 w (.cells #[.bool s, .slice A xs.length c, .int .i64 x] 26) (.cells #[.bool r, .slice B ys.length d, .int .i64 y] 26) (.cells #[.bool false, .slice none 0 0, .int .i64 0] 26)
  rw [← hW]
  have L1 := ls L0 hb
  have Gx := gl0 L0.out
  have Gy := gl1 L0.out
  have Nxy : w.heap.size < w.heap.size + 1 := by omega
  have Gr := gl2 L0.out
  have Nxr : w.heap.size < w.heap.size + 1 + 1 := by omega
  have Nyr : w.heap.size + 1 < w.heap.size + 1 + 1 := by omega
  clear hW hb
  refine (r5right_any (L1.out.get (A := B) (c := d) (xs := ys) (by simp)) ly.out HQ.out).mono ?_
  rintro e w2 ⟨rfl, hb⟩
  have L2 := ls L1 hb
  have Rx_2 := co Rx_1 hb
  have Ry_2 := co Ry_1 hb
  have Rr_2 := co Rr_1 hb
  clear hb 
  obtain ⟨fr0, zr0, fr1, zr1, fr2, zr2, xr⟩ := ly3 Rr_2.out
  go_wp2
  refine bodyPost_ret (v := .tuple #[.agg #[.bool false, .slice none 0 0, .int .i64 0], .int .i64 1]) (by simp [results, Tryd.results26, go_sem, fr0, fr1, fr2]) rfl ?_
  exact zero_ye (fin3 L2.out Rr_2.out noint3 Gr).1

set_option maxHeartbeats 4000000 in
set_option maxRecDepth 100000 in
theorem r5sub_x (A B : Option Addr) (c d : Nat) (s : Bool) (xs : List Nat) (x : Int) (n y : Int) (w : World) (h : Dg w A c xs) (hl : xs.length ≤ 9223372036854775807) (h' : Dg w B d (digs n.natAbs)) (hl' : (digs n.natAbs).length ≤ 10000) (r2 : Rt n y) (hq : dyR s xs x = false):
    Calls Tryd.prog 26 #[.agg #[.bool s, .slice A xs.length c, .int .i64 x], .agg #[.bool (decide (n < 0)), .slice B (digs n.natAbs).length d, .int .i64 y]] w fun e w' => Ye 0 0 1 w e w' := by
  have lx := Lib.hid hl
  have ly := Lib.hid hl'
  have HQ := Lib.hid hq
  have HR2 := Lib.hid r2
  obtain ⟨k, hk⟩ : ∃ k, -n = k := ⟨_, rfl⟩
  have lk := Lib.hid (show (digs k.natAbs).length ≤ 9223372036854775807 by rw [← hk, Int.natAbs_neg]; omega)
  have HK := Lib.hid hk
  have HW := Lib.hid (show (dyR s xs x && dyR (decide (k < 0)) (digs k.natAbs) y) = false by rw [hq]; rfl)
  have L0 := Lib.hid (((live_start w).add h).add h')
  clear h h' hl hl' hq r2 hk
  go_enter Tryd.func26, Tryd.ntmps26
  go_wp2_with fail
  obtain ⟨v1, hW, hb, Rx_1, Ry_1, Rr_1⟩ := new3 w (.cells #[.bool s, .slice A xs.length c, .int .i64 x] 26) (.cells #[.bool (decide (n < 0)), .slice B (digs n.natAbs).length d, .int .i64 y] 26) (.cells #[.bool false, .slice none 0 0, .int .i64 0] 26)
  rw [← hW]
  have L1 := ls L0 hb
  have Gx := gl0 L0.out
  have Gy := gl1 L0.out
  have Nxy : w.heap.size < w.heap.size + 1 := by omega
  have Gr := gl2 L0.out
  have Nxr : w.heap.size < w.heap.size + 1 + 1 := by omega
  have Nyr : w.heap.size + 1 < w.heap.size + 1 + 1 := by omega
  clear hW hb
  refine (r5right_t (L1.out.get (A := B) (c := d) (xs := digs n.natAbs) (by simp)) ly.out HR2.out).mono ?_
  rintro e w2 ⟨rfl, hb⟩
  have L2 := ls L1 hb
  have Rx_2 := co Rx_1 hb
  have Ry_2 := co Ry_1 hb
  have Rr_2 := co Rr_1 hb
  clear hb 
  obtain ⟨fx0, zx0, fx1, zx1, fx2, zx2, xx⟩ := ly3 Rx_2.out
  obtain ⟨fy0, zy0, fy1, zy1, fy2, zy2, xy⟩ := ly3 Ry_2.out
  obtain ⟨fr0, zr0, fr1, zr1, fr2, zr2, xr⟩ := ly3 Rr_2.out
  go_wp2_with fail
  clear fx0 zx0 fx1 zx1 fx2 zx2 xx fy0 zy0 fy1 zy1 fy2 zy2 xy fr0 zr0 fr1 zr1 fr2 zr2 xr
  obtain ⟨fx0, zx0, fx1, zx1, fx2, zx2, xx⟩ := ly3 Rx_2.out
  obtain ⟨fy0, zy0, fy1, zy1, fy2, zy2, xy⟩ := ly3 Ry_2.out
  have KD := Lib.hid (bd0 w2)
  have LD := ls L2 KD.out
  have Mx : w.heap.size ≠ w.heap.size + 1 + 1 := by omega
  have My : w.heap.size + 1 ≠ w.heap.size + 1 + 1 := by omega
  go_region_held3 (fun w' => (∀ o, w'.cell? ⟨w.heap.size, o, none⟩ = w2.cell? ⟨w.heap.size, o, none⟩) ∧ (∀ o, w'.cell? ⟨w.heap.size + 1, o, none⟩ = w2.cell? ⟨w.heap.size + 1, o, none⟩))
    (first | with_reducible exact ⟨keep_b KD.out xx, keep_b KD.out xy⟩ | with_reducible exact ⟨keep_b K4.out xx, keep_b K4.out xy⟩ | with_reducible exact ⟨keep_b K5.out xx, keep_b K5.out xy⟩ | exact ⟨(keep_set (keep_b K5.out xx) Mx), (keep_set (keep_b K5.out xy) My)⟩ | exact ⟨(keep_set (keep_set (keep_b K5.out xx) Mx) Mx), (keep_set (keep_set (keep_b K5.out xy) My) My)⟩ | exact ⟨(keep_set (keep_set (keep_set (keep_b K5.out xx) Mx) Mx) Mx), (keep_set (keep_set (keep_set (keep_b K5.out xy) My) My) My)⟩)
    (first
      | (go_at_call 16; (with_reducible refine (r5neg_t B d n y k _ (LD.out.get (A := B) (c := d) (xs := digs n.natAbs) (by simp)) ly.out HR2.out HK.out).mono ?_); rintro e w4 ⟨A4, c4, rfl, hd, hb⟩; (have K4 := bt KD hb); (have L4 := la LD hb hd); clear hb hd)
      | (go_at_call 24; (with_reducible refine (r5add_no (L4.out.get (A := A) (c := c) (xs := xs) (by simp)) (L4.out.get (A := A4) (c := c4) (xs := digs k.natAbs) (by simp)) lx.out lk.out HW.out).mono ?_); rintro e w5 ⟨A5, c5, rfl, hd, hb⟩; (have K5 := bt K4 hb); (have L5 := la L4 hb hd); (have qr0_K5 := row_c (i := 0) (co Rr_2 K5.out).out rfl); (have pr0_K5 := frozen_of_row _ _ 0 _ _ (cells_of Rr_2.out K5.out)); (have qr1_K5 := row_c (i := 1) (co Rr_2 K5.out).out rfl); (have pr1_K5 := frozen_of_row _ _ 1 _ _ (cells_of Rr_2.out K5.out)); (have qr2_K5 := row_c (i := 2) (co Rr_2 K5.out).out rfl); (have pr2_K5 := frozen_of_row _ _ 2 _ _ (cells_of Rr_2.out K5.out)); clear hb hd))
  rename_i hHeld
  clear hHeld
  clear fx0 zx0 fx1 zx1 fx2 zx2 xx fy0 zy0 fy1 zy1 fy2 zy2 xy
  have Rx_5 := co Rx_2 K5.out
  have Ry_5 := co Ry_2 K5.out
  have Rr_5 := co Rr_2 K5.out
  obtain ⟨fr0, zr0, fr1, zr1, fr2, zr2, xr⟩ := ly3 Rr_5.out
  go_wp2
  refine bodyPost_ret (v := .tuple #[.agg #[.bool (decide ((0 : Int) < 0)), .slice A5 (digs (0 : Int).natAbs).length c5, .int .i64 0], .int .i64 1]) (by simp [results, Tryd.results26, go_sem, fr0, fr1, fr2]) rfl ?_
  
  refine ⟨A5, c5, rfl, ?_, ?_⟩
  · exact (fin3 L5.out Rr_5.out noint3 Gr).get (A := A5) (c := c5) (xs := digs (0 : Int).natAbs) (by simp)
  · exact (fin3 L5.out Rr_5.out noint3 Gr).1

set_option maxHeartbeats 4000000 in
set_option maxRecDepth 100000 in
theorem r5mul_no_ff (A B : Option Addr) (c d : Nat) (s r : Bool) (xs ys : List Nat) (x y : Int) (w : World) (h : Dg w A c xs) (h' : Dg w B d ys) (hl : xs.length ≤ 9223372036854775807) (hl' : ys.length ≤ 9223372036854775807) (hp : dyR s xs x = false) (hq : dyR r ys y = false):
    Calls Tryd.prog 28 #[.agg #[.bool s, .slice A xs.length c, .int .i64 x], .agg #[.bool r, .slice B ys.length d, .int .i64 y]] w fun e w' => e = .returned (.tuple #[.agg #[.bool false, .slice none 0 0, .int .i64 0], .int .i64 1]) ∧ Below w.heap.size w w' := by
  have lx := Lib.hid hl
  have ly := Lib.hid hl'
  have HP := Lib.hid hp
  have HQ := Lib.hid hq
  have L0 := Lib.hid (((live_start w).add h).add h')
  clear h h' hl hl' hp hq
  go_enter Tryd.func28, Tryd.ntmps28
  go_wp2_with fail
  obtain ⟨v1, hW, hb, Rx_1, Ry_1, Rr_1⟩ := new3 w (.cells #[.bool s, .slice A xs.length c, .int .i64 x] 26) (.cells #[.bool r, .slice B ys.length d, .int .i64 y] 26) (.cells #[.bool false, .slice none 0 0, .int .i64 0] 26)
  rw [← hW]
  have L1 := ls L0 hb
  have Gx := gl0 L0.out
  have Gy := gl1 L0.out
  have Nxy : w.heap.size < w.heap.size + 1 := by omega
  have Gr := gl2 L0.out
  have Nxr : w.heap.size < w.heap.size + 1 + 1 := by omega
  have Nyr : w.heap.size + 1 < w.heap.size + 1 + 1 := by omega
  clear hW hb
  refine (r5right_any (L1.out.get (A := A) (c := c) (xs := xs) (by simp)) lx.out HP.out).mono ?_
  rintro e w2 ⟨rfl, hb⟩
  have L2 := ls L1 hb
  have Rx_2 := co Rx_1 hb
  have Ry_2 := co Ry_1 hb
  have Rr_2 := co Rr_1 hb
  clear hb 
  obtain ⟨fy0, zy0, fy1, zy1, fy2, zy2, xy⟩ := ly3 Ry_2.out
  go_wp2_with fail
  refine (r5right_any (L2.out.get (A := B) (c := d) (xs := ys) (by simp)) ly.out HQ.out).mono ?_
  rintro e w3 ⟨rfl, hb⟩
  have L3 := ls L2 hb
  clear fy0 zy0 fy1 zy1 fy2 zy2 xy
  have Rx_3 := co Rx_2 hb
  have Ry_3 := co Ry_2 hb
  have Rr_3 := co Rr_2 hb
  clear hb 
  obtain ⟨fr0, zr0, fr1, zr1, fr2, zr2, xr⟩ := ly3 Rr_3.out
  go_wp2
  refine bodyPost_ret (v := .tuple #[.agg #[.bool false, .slice none 0 0, .int .i64 0], .int .i64 1]) (by simp [results, Tryd.results28, go_sem, fr0, fr1, fr2]) rfl ?_
  exact ⟨rfl, (fin3 L3.out Rr_3.out noint3 Gr).1⟩

set_option maxHeartbeats 4000000 in
set_option maxRecDepth 100000 in
theorem r5mul_no_ft (A B : Option Addr) (c d : Nat) (s r : Bool) (xs ys : List Nat) (x y : Int) (w : World) (h : Dg w A c xs) (h' : Dg w B d ys) (hl : xs.length ≤ 9223372036854775807) (hl' : ys.length ≤ 9223372036854775807) (hp : dyR s xs x = false) (hq : dyR r ys y = true):
    Calls Tryd.prog 28 #[.agg #[.bool s, .slice A xs.length c, .int .i64 x], .agg #[.bool r, .slice B ys.length d, .int .i64 y]] w fun e w' => e = .returned (.tuple #[.agg #[.bool false, .slice none 0 0, .int .i64 0], .int .i64 1]) ∧ Below w.heap.size w w' := by
  have lx := Lib.hid hl
  have ly := Lib.hid hl'
  have HP := Lib.hid hp
  have HQ := Lib.hid hq
  have L0 := Lib.hid (((live_start w).add h).add h')
  clear h h' hl hl' hp hq
  go_enter Tryd.func28, Tryd.ntmps28
  go_wp2_with fail
  obtain ⟨v1, hW, hb, Rx_1, Ry_1, Rr_1⟩ := new3 w (.cells #[.bool s, .slice A xs.length c, .int .i64 x] 26) (.cells #[.bool r, .slice B ys.length d, .int .i64 y] 26) (.cells #[.bool false, .slice none 0 0, .int .i64 0] 26)
  rw [← hW]
  have L1 := ls L0 hb
  have Gx := gl0 L0.out
  have Gy := gl1 L0.out
  have Nxy : w.heap.size < w.heap.size + 1 := by omega
  have Gr := gl2 L0.out
  have Nxr : w.heap.size < w.heap.size + 1 + 1 := by omega
  have Nyr : w.heap.size + 1 < w.heap.size + 1 + 1 := by omega
  clear hW hb
  refine (r5right_any (L1.out.get (A := A) (c := c) (xs := xs) (by simp)) lx.out HP.out).mono ?_
  rintro e w2 ⟨rfl, hb⟩
  have L2 := ls L1 hb
  have Rx_2 := co Rx_1 hb
  have Ry_2 := co Ry_1 hb
  have Rr_2 := co Rr_1 hb
  clear hb 
  obtain ⟨fy0, zy0, fy1, zy1, fy2, zy2, xy⟩ := ly3 Ry_2.out
  go_wp2_with fail
  refine (r5right_any (L2.out.get (A := B) (c := d) (xs := ys) (by simp)) ly.out HQ.out).mono ?_
  rintro e w3 ⟨rfl, hb⟩
  have L3 := ls L2 hb
  clear fy0 zy0 fy1 zy1 fy2 zy2 xy
  have Rx_3 := co Rx_2 hb
  have Ry_3 := co Ry_2 hb
  have Rr_3 := co Rr_2 hb
  clear hb 
  obtain ⟨fr0, zr0, fr1, zr1, fr2, zr2, xr⟩ := ly3 Rr_3.out
  go_wp2
  refine bodyPost_ret (v := .tuple #[.agg #[.bool false, .slice none 0 0, .int .i64 0], .int .i64 1]) (by simp [results, Tryd.results28, go_sem, fr0, fr1, fr2]) rfl ?_
  exact ⟨rfl, (fin3 L3.out Rr_3.out noint3 Gr).1⟩

set_option maxHeartbeats 4000000 in
set_option maxRecDepth 100000 in
theorem r5mul_no_tf (A B : Option Addr) (c d : Nat) (s r : Bool) (xs ys : List Nat) (x y : Int) (w : World) (h : Dg w A c xs) (h' : Dg w B d ys) (hl : xs.length ≤ 9223372036854775807) (hl' : ys.length ≤ 9223372036854775807) (hp : dyR s xs x = true) (hq : dyR r ys y = false):
    Calls Tryd.prog 28 #[.agg #[.bool s, .slice A xs.length c, .int .i64 x], .agg #[.bool r, .slice B ys.length d, .int .i64 y]] w fun e w' => e = .returned (.tuple #[.agg #[.bool false, .slice none 0 0, .int .i64 0], .int .i64 1]) ∧ Below w.heap.size w w' := by
  have lx := Lib.hid hl
  have ly := Lib.hid hl'
  have HP := Lib.hid hp
  have HQ := Lib.hid hq
  have L0 := Lib.hid (((live_start w).add h).add h')
  clear h h' hl hl' hp hq
  go_enter Tryd.func28, Tryd.ntmps28
  go_wp2_with fail
  obtain ⟨v1, hW, hb, Rx_1, Ry_1, Rr_1⟩ := new3 w (.cells #[.bool s, .slice A xs.length c, .int .i64 x] 26) (.cells #[.bool r, .slice B ys.length d, .int .i64 y] 26) (.cells #[.bool false, .slice none 0 0, .int .i64 0] 26)
  rw [← hW]
  have L1 := ls L0 hb
  have Gx := gl0 L0.out
  have Gy := gl1 L0.out
  have Nxy : w.heap.size < w.heap.size + 1 := by omega
  have Gr := gl2 L0.out
  have Nxr : w.heap.size < w.heap.size + 1 + 1 := by omega
  have Nyr : w.heap.size + 1 < w.heap.size + 1 + 1 := by omega
  clear hW hb
  refine (r5right_any (L1.out.get (A := A) (c := c) (xs := xs) (by simp)) lx.out HP.out).mono ?_
  rintro e w2 ⟨rfl, hb⟩
  have L2 := ls L1 hb
  have Rx_2 := co Rx_1 hb
  have Ry_2 := co Ry_1 hb
  have Rr_2 := co Rr_1 hb
  clear hb 
  obtain ⟨fy0, zy0, fy1, zy1, fy2, zy2, xy⟩ := ly3 Ry_2.out
  go_wp2_with fail
  refine (r5right_any (L2.out.get (A := B) (c := d) (xs := ys) (by simp)) ly.out HQ.out).mono ?_
  rintro e w3 ⟨rfl, hb⟩
  have L3 := ls L2 hb
  clear fy0 zy0 fy1 zy1 fy2 zy2 xy
  have Rx_3 := co Rx_2 hb
  have Ry_3 := co Ry_2 hb
  have Rr_3 := co Rr_2 hb
  clear hb 
  obtain ⟨fr0, zr0, fr1, zr1, fr2, zr2, xr⟩ := ly3 Rr_3.out
  go_wp2
  refine bodyPost_ret (v := .tuple #[.agg #[.bool false, .slice none 0 0, .int .i64 0], .int .i64 1]) (by simp [results, Tryd.results28, go_sem, fr0, fr1, fr2]) rfl ?_
  exact ⟨rfl, (fin3 L3.out Rr_3.out noint3 Gr).1⟩

theorem r5mul_no {A B : Option Addr} {c d : Nat} {s r : Bool} {xs ys : List Nat} {x y : Int} {w : World} (h : Dg w A c xs) (h' : Dg w B d ys) (hl : xs.length ≤ 9223372036854775807) (hl' : ys.length ≤ 9223372036854775807) (hq : (dyR s xs x && dyR r ys y) = false) :
    Calls Tryd.prog 28 #[.agg #[.bool s, .slice A xs.length c, .int .i64 x], .agg #[.bool r, .slice B ys.length d, .int .i64 y]] w fun e w' => Ye 0 0 1 w e w' := by
  obtain ⟨p, hp⟩ : ∃ p, dyR s xs x = p := ⟨_, rfl⟩
  obtain ⟨q, hq2⟩ : ∃ p, dyR r ys y = p := ⟨_, rfl⟩
  rw [hp, hq2] at hq
  cases p <;> cases q
  · refine (r5mul_no_ff A B c d s r xs ys x y w h h' hl hl' hp hq2).mono ?_
    rintro e w' ⟨rfl, hb⟩; exact zero_ye hb
  · refine (r5mul_no_ft A B c d s r xs ys x y w h h' hl hl' hp hq2).mono ?_
    rintro e w' ⟨rfl, hb⟩; exact zero_ye hb
  · refine (r5mul_no_tf A B c d s r xs ys x y w h h' hl hl' hp hq2).mono ?_
    rintro e w' ⟨rfl, hb⟩; exact zero_ye hb
  · cases hq

set_option maxHeartbeats 4000000 in
set_option maxRecDepth 100000 in
theorem r5mul_t (A B : Option Addr) (c d : Nat) (m n x y : Int) (M E : Int) (w : World) (h : Dg w A c (digs m.natAbs)) (h' : Dg w B d (digs n.natAbs)) (hl : (digs m.natAbs).length ≤ 10000) (hl' : (digs n.natAbs).length ≤ 10000) (r1 : Rt m x) (r2 : Rt n y) (hs : IsD (dv m x * dv n y) M E) {K F V : Int} (hq : tot M E = (K, F, V)):
    Calls Tryd.prog 28 #[.agg #[.bool (decide (m < 0)), .slice A (digs m.natAbs).length c, .int .i64 x], .agg #[.bool (decide (n < 0)), .slice B (digs n.natAbs).length d, .int .i64 y]] w fun e w' => Ye K F V w e w' := by
  have HR1 := Lib.hid r1
  have HR2 := Lib.hid r2
  have lx := Lib.hid hl
  have ly := Lib.hid hl'
  have HQ := Lib.hid hq
  have x0 := r1.2.1
  have x1 := r1.2.2
  have y0 := r2.2.1
  have y1 := r2.2.2
  obtain ⟨z, hz⟩ : ∃ z, m * n = z := ⟨_, rfl⟩
  obtain ⟨s, hs1⟩ : ∃ s, x + y = s := ⟨_, rfl⟩
  rw [dv_mul, hz, hs1] at hs
  have hu := IsD.of hs
  have HM := Lib.hid hu.1
  have HE := Lib.hid hu.2
  have HZ := Lib.hid hz
  have lz : (digs z.natAbs).length ≤ 20000 := by
    rw [← hz, Int.natAbs_mul]
    have := digs_mul_len m.natAbs n.natAbs
    omega
  have LZ := Lib.hid lz
  have LM := Lib.hid (show (digs M.natAbs).length ≤ 20000 by rw [← hu.1]; have := nm_len z; omega)
  have BE := nx_bdU (z := z) (y := s) (by omega) (by omega) (by omega)
  rw [hu.2] at BE
  have BE := Lib.hid BE
  have SB := Lib.hid (show -1000000 ≤ s ∧ s ≤ 1000000 by omega)
  have ws : IntKind.i64.wrap (x + y) = s := by rw [IntWalk.i64_in _ (by omega)]; exact hs1
  have L0 := Lib.hid (((live_start w).add h).add h')
  clear h h' hl hl' r1 r2 hs hq hz hs1 hu lz x0 x1 y0 y1
  go_enter Tryd.func28, Tryd.ntmps28
  go_wp2_with fail
  obtain ⟨v1, hW, hb, Rx_1, Ry_1, Rr_1⟩ := new3 w (.cells #[.bool (decide (m < 0)), .slice A (digs m.natAbs).length c, .int .i64 x] 26) (.cells #[.bool (decide (n < 0)), .slice B (digs n.natAbs).length d, .int .i64 y] 26) (.cells #[.bool false, .slice none 0 0, .int .i64 0] 26)
  rw [← hW]
  have L1 := ls L0 hb
  have Gx := gl0 L0.out
  have Gy := gl1 L0.out
  have Nxy : w.heap.size < w.heap.size + 1 := by omega
  have Gr := gl2 L0.out
  have Nxr : w.heap.size < w.heap.size + 1 + 1 := by omega
  have Nyr : w.heap.size + 1 < w.heap.size + 1 + 1 := by omega
  clear hW hb
  refine (r5right_t (L1.out.get (A := A) (c := c) (xs := digs m.natAbs) (by simp)) lx.out HR1.out).mono ?_
  rintro e w2 ⟨rfl, hb⟩
  have L2 := ls L1 hb
  have Rx_2 := co Rx_1 hb
  have Ry_2 := co Ry_1 hb
  have Rr_2 := co Rr_1 hb
  clear hb 
  obtain ⟨fy0, zy0, fy1, zy1, fy2, zy2, xy⟩ := ly3 Ry_2.out
  go_wp2_with fail
  refine (r5right_t (L2.out.get (A := B) (c := d) (xs := digs n.natAbs) (by simp)) ly.out HR2.out).mono ?_
  rintro e w3 ⟨rfl, hb⟩
  have L3 := ls L2 hb
  clear fy0 zy0 fy1 zy1 fy2 zy2 xy
  have Rx_3 := co Rx_2 hb
  have Ry_3 := co Ry_2 hb
  have Rr_3 := co Rr_2 hb
  clear hb 
  obtain ⟨fx0, zx0, fx1, zx1, fx2, zx2, xx⟩ := ly3 Rx_3.out
  obtain ⟨fy0, zy0, fy1, zy1, fy2, zy2, xy⟩ := ly3 Ry_3.out
  obtain ⟨fr0, zr0, fr1, zr1, fr2, zr2, xr⟩ := ly3 Rr_3.out
  go_wp2_with fail
  clear fx0 zx0 fx1 zx1 fx2 zx2 xx fy0 zy0 fy1 zy1 fy2 zy2 xy fr0 zr0 fr1 zr1 fr2 zr2 xr
  obtain ⟨fx0, zx0, fx1, zx1, fx2, zx2, xx⟩ := ly3 Rx_3.out
  obtain ⟨fy0, zy0, fy1, zy1, fy2, zy2, xy⟩ := ly3 Ry_3.out
  have KD := Lib.hid (bd0 w3)
  have LD := ls L3 KD.out
  have Mx : w.heap.size ≠ w.heap.size + 1 + 1 := by omega
  have My : w.heap.size + 1 ≠ w.heap.size + 1 + 1 := by omega
  go_region_held3 (fun w' => (∀ o, w'.cell? ⟨w.heap.size, o, none⟩ = w3.cell? ⟨w.heap.size, o, none⟩) ∧ (∀ o, w'.cell? ⟨w.heap.size + 1, o, none⟩ = w3.cell? ⟨w.heap.size + 1, o, none⟩))
    (first | with_reducible exact ⟨keep_b KD.out xx, keep_b KD.out xy⟩ | with_reducible exact ⟨keep_b K5.out xx, keep_b K5.out xy⟩ | with_reducible exact ⟨keep_b K6.out xx, keep_b K6.out xy⟩ | with_reducible exact ⟨keep_b K7.out xx, keep_b K7.out xy⟩ | exact ⟨(keep_set (keep_b K7.out xx) Mx), (keep_set (keep_b K7.out xy) My)⟩ | exact ⟨(keep_set (keep_set (keep_b K7.out xx) Mx) Mx), (keep_set (keep_set (keep_b K7.out xy) My) My)⟩ | exact ⟨(keep_set (keep_set (keep_set (keep_b K7.out xx) Mx) Mx) Mx), (keep_set (keep_set (keep_set (keep_b K7.out xy) My) My) My)⟩)
    (first
      | (go_at_call 65; (with_reducible refine (rzmul_j (LD.out.get (A := A) (c := c) (xs := digs m.natAbs) (by simp)) (LD.out.get (A := B) (c := d) (xs := digs n.natAbs) (by simp)) (Nat.le_trans lx.out (by omega)) (Nat.le_trans ly.out (by omega)) HZ.out).mono ?_); rintro e w5 ⟨A5, c5, rfl, hd, hb⟩; (have K5 := bt KD hb); (have L5 := la LD hb hd); clear hb hd)
      | (go_at_call 40; (with_reducible refine (rnorm_j (L5.out.get (A := A5) (c := c5) (xs := digs z.natAbs) (by simp)) (Nat.le_trans LZ.out (by omega)) SB.out.1 SB.out.2 HM.out HE.out).mono ?_); rintro e w6 ⟨A6, c6, rfl, hd, hb⟩; (have K6 := bt K5 hb); (have L6 := la L5 hb hd); clear hb hd)
      | (go_at_call 62; (with_reducible refine (r5told (L6.out.get (A := A6) (c := c6) (xs := digs M.natAbs) (by simp)) (Nat.le_trans LM.out (by omega)) BE.out.1 BE.out.2 HQ.out).mono ?_); rintro e w7 ⟨A7, c7, rfl, hd, hb⟩; (have K7 := bt K6 hb); (have L7 := la L6 hb hd); (have qr0_K7 := row_c (i := 0) (co Rr_3 K7.out).out rfl); (have pr0_K7 := frozen_of_row _ _ 0 _ _ (cells_of Rr_3.out K7.out)); (have qr1_K7 := row_c (i := 1) (co Rr_3 K7.out).out rfl); (have pr1_K7 := frozen_of_row _ _ 1 _ _ (cells_of Rr_3.out K7.out)); (have qr2_K7 := row_c (i := 2) (co Rr_3 K7.out).out rfl); (have pr2_K7 := frozen_of_row _ _ 2 _ _ (cells_of Rr_3.out K7.out)); clear hb hd))
  rename_i hHeld
  clear hHeld
  clear fx0 zx0 fx1 zx1 fx2 zx2 xx fy0 zy0 fy1 zy1 fy2 zy2 xy
  have Rx_7 := co Rx_3 K7.out
  have Ry_7 := co Ry_3 K7.out
  have Rr_7 := co Rr_3 K7.out
  clear ws
  obtain ⟨fr0, zr0, fr1, zr1, fr2, zr2, xr⟩ := ly3 Rr_7.out
  go_wp2
  refine bodyPost_ret (v := .tuple #[.agg #[.bool (decide (K < 0)), .slice A7 (digs K.natAbs).length c7, .int .i64 F], .int .i64 V]) (by simp [results, Tryd.results28, go_sem, fr0, fr1, fr2]) rfl ?_
  
  refine ⟨A7, c7, rfl, ?_, ?_⟩
  · exact (fin3 L7.out Rr_7.out noint3 Gr).get (A := A7) (c := c7) (xs := digs K.natAbs) (by simp)
  · exact (fin3 L7.out Rr_7.out noint3 Gr).1

set_option maxHeartbeats 4000000 in
set_option maxRecDepth 100000 in
theorem r5scale_w (A : Option Addr) (c : Nat) (s : Bool) (xs : List Nat) (x n : Int) (w : World) (h : Dg w A c xs) (hl : xs.length ≤ 9223372036854775807) (hq : dyR s xs x = false):
    Calls Tryd.prog 30 #[.agg #[.bool s, .slice A xs.length c, .int .i64 x], .int .i64 n] w fun e w' => Ye 0 0 1 w e w' := by
  have lx := Lib.hid hl
  have HQ := Lib.hid hq
  have L0 := Lib.hid ((live_start w).add h)
  clear h hl hq
  go_enter Tryd.func30, Tryd.ntmps30
  go_wp2_with fail
  obtain ⟨v1, hW, hb, Rx_1, Rr_1⟩ := new2 w (.cells #[.bool s, .slice A xs.length c, .int .i64 x] 26) (.cells #[.bool false, .slice none 0 0, .int .i64 0] 26)
  rw [← hW]
  have L1 := ls L0 hb
  have Gx := gl0 L0.out
  have Gr := gl1 L0.out
  have Nxr : w.heap.size < w.heap.size + 1 := by omega
  clear hW hb
  refine (r5right_any (L1.out.get (A := A) (c := c) (xs := xs) (by simp)) lx.out HQ.out).mono ?_
  rintro e w2 ⟨rfl, hb⟩
  have L2 := ls L1 hb
  have Rx_2 := co Rx_1 hb
  have Rr_2 := co Rr_1 hb
  clear hb 
  obtain ⟨fx0, zx0, fx1, zx1, fx2, zx2, xx⟩ := ly3 Rx_2.out
  obtain ⟨fr0, zr0, fr1, zr1, fr2, zr2, xr⟩ := ly3 Rr_2.out
  go_wp2
  refine bodyPost_ret (v := .tuple #[.agg #[.bool false, .slice none 0 0, .int .i64 0], .int .i64 1]) (by simp [results, Tryd.results30, go_sem, fx0, fx1, fx2, fr0, fr1, fr2]) rfl ?_
  exact zero_ye (fin3 L2.out Rr_2.out noint3 Gr).1

set_option maxHeartbeats 4000000 in
set_option maxRecDepth 100000 in
theorem r5scale_l (A : Option Addr) (c : Nat) (m x n : Int) (w : World) (h : Dg w A c (digs m.natAbs)) (hl : (digs m.natAbs).length ≤ 10000) (r1 : Rt m x) (hn : n < -100000):
    Calls Tryd.prog 30 #[.agg #[.bool (decide (m < 0)), .slice A (digs m.natAbs).length c, .int .i64 x], .int .i64 n] w fun e w' => Ye 0 0 4 w e w' := by
  have lx := Lib.hid hl
  have HR1 := Lib.hid r1
  have d1 : decide (n < -100000) = true := by simp; omega
  have L0 := Lib.hid ((live_start w).add h)
  clear h hl hn r1
  go_enter Tryd.func30, Tryd.ntmps30
  go_wp2_with fail
  obtain ⟨v1, hW, hb, Rx_1, Rr_1⟩ := new2 w (.cells #[.bool (decide (m < 0)), .slice A (digs m.natAbs).length c, .int .i64 x] 26) (.cells #[.bool false, .slice none 0 0, .int .i64 0] 26)
  rw [← hW]
  have L1 := ls L0 hb
  have Gx := gl0 L0.out
  have Gr := gl1 L0.out
  have Nxr : w.heap.size < w.heap.size + 1 := by omega
  clear hW hb
  refine (r5right_t (L1.out.get (A := A) (c := c) (xs := digs m.natAbs) (by simp)) lx.out HR1.out).mono ?_
  rintro e w2 ⟨rfl, hb⟩
  have L2 := ls L1 hb
  have Rx_2 := co Rx_1 hb
  have Rr_2 := co Rr_1 hb
  clear hb 
  obtain ⟨fx0, zx0, fx1, zx1, fx2, zx2, xx⟩ := ly3 Rx_2.out
  obtain ⟨fr0, zr0, fr1, zr1, fr2, zr2, xr⟩ := ly3 Rr_2.out
  go_wp2
  refine bodyPost_ret (v := .tuple #[.agg #[.bool false, .slice none 0 0, .int .i64 0], .int .i64 4]) (by simp [results, Tryd.results30, go_sem, fx0, fx1, fx2, fr0, fr1, fr2]) rfl ?_
  exact zero_ye (fin3 L2.out Rr_2.out noint3 Gr).1

set_option maxHeartbeats 4000000 in
set_option maxRecDepth 100000 in
theorem r5scale_h (A : Option Addr) (c : Nat) (m x n : Int) (w : World) (h : Dg w A c (digs m.natAbs)) (hl : (digs m.natAbs).length ≤ 10000) (r1 : Rt m x) (hn : 100000 < n):
    Calls Tryd.prog 30 #[.agg #[.bool (decide (m < 0)), .slice A (digs m.natAbs).length c, .int .i64 x], .int .i64 n] w fun e w' => Ye 0 0 4 w e w' := by
  have lx := Lib.hid hl
  have HR1 := Lib.hid r1
  have d1 : decide (n < -100000) = false := by simp; omega
  have d2 : decide (100000 < n) = true := by simp; omega
  have L0 := Lib.hid ((live_start w).add h)
  clear h hl hn r1
  go_enter Tryd.func30, Tryd.ntmps30
  go_wp2_with fail
  obtain ⟨v1, hW, hb, Rx_1, Rr_1⟩ := new2 w (.cells #[.bool (decide (m < 0)), .slice A (digs m.natAbs).length c, .int .i64 x] 26) (.cells #[.bool false, .slice none 0 0, .int .i64 0] 26)
  rw [← hW]
  have L1 := ls L0 hb
  have Gx := gl0 L0.out
  have Gr := gl1 L0.out
  have Nxr : w.heap.size < w.heap.size + 1 := by omega
  clear hW hb
  refine (r5right_t (L1.out.get (A := A) (c := c) (xs := digs m.natAbs) (by simp)) lx.out HR1.out).mono ?_
  rintro e w2 ⟨rfl, hb⟩
  have L2 := ls L1 hb
  have Rx_2 := co Rx_1 hb
  have Rr_2 := co Rr_1 hb
  clear hb 
  obtain ⟨fx0, zx0, fx1, zx1, fx2, zx2, xx⟩ := ly3 Rx_2.out
  obtain ⟨fr0, zr0, fr1, zr1, fr2, zr2, xr⟩ := ly3 Rr_2.out
  go_wp2
  refine bodyPost_ret (v := .tuple #[.agg #[.bool false, .slice none 0 0, .int .i64 0], .int .i64 4]) (by simp [results, Tryd.results30, go_sem, fx0, fx1, fx2, fr0, fr1, fr2]) rfl ?_
  exact zero_ye (fin3 L2.out Rr_2.out noint3 Gr).1

set_option maxHeartbeats 4000000 in
set_option maxRecDepth 100000 in
theorem r5scale_z (A : Option Addr) (c : Nat) (m x n : Int) (w : World) (h : Dg w A c (digs m.natAbs)) (hl : (digs m.natAbs).length ≤ 10000) (r1 : Rt m x) (hn : -100000 ≤ n ∧ n ≤ 100000) (m0 : m = 0):
    Calls Tryd.prog 30 #[.agg #[.bool (decide (m < 0)), .slice A (digs m.natAbs).length c, .int .i64 x], .int .i64 n] w fun e w' => Ye m x 0 w e w' := by
  have lx := Lib.hid hl
  have HR1 := Lib.hid r1
  have d1 : decide (n < -100000) = false := by simp; omega
  have d2 : decide (100000 < n) = false := by simp; omega
  have t1 : ((((digs m.natAbs).length : Nat) : Int) == 0) = true := by rw [m0, show digs (0 : Int).natAbs = [] from digs_zero]; rfl
  have L0 := Lib.hid ((live_start w).add h)
  clear h hl hn m0 r1
  go_enter Tryd.func30, Tryd.ntmps30
  go_wp2_with fail
  obtain ⟨v1, hW, hb, Rx_1, Rr_1⟩ := new2 w (.cells #[.bool (decide (m < 0)), .slice A (digs m.natAbs).length c, .int .i64 x] 26) (.cells #[.bool false, .slice none 0 0, .int .i64 0] 26)
  rw [← hW]
  have L1 := ls L0 hb
  have Gx := gl0 L0.out
  have Gr := gl1 L0.out
  have Nxr : w.heap.size < w.heap.size + 1 := by omega
  clear hW hb
  refine (r5right_t (L1.out.get (A := A) (c := c) (xs := digs m.natAbs) (by simp)) lx.out HR1.out).mono ?_
  rintro e w2 ⟨rfl, hb⟩
  have L2 := ls L1 hb
  have Rx_2 := co Rx_1 hb
  have Rr_2 := co Rr_1 hb
  clear hb 
  obtain ⟨fx0, zx0, fx1, zx1, fx2, zx2, xx⟩ := ly3 Rx_2.out
  obtain ⟨fr0, zr0, fr1, zr1, fr2, zr2, xr⟩ := ly3 Rr_2.out
  go_wp2
  refine bodyPost_ret (v := .tuple #[.agg #[.bool (decide (m < 0)), .slice A (digs m.natAbs).length c, .int .i64 x], .int .i64 0]) (by simp [results, Tryd.results30, go_sem, fx0, fx1, fx2, fr0, fr1, fr2]) rfl ?_
  
  refine ⟨A, c, rfl, ?_, ?_⟩
  · exact (fin3 L2.out Rr_2.out noint3 Gr).get (A := A) (c := c) (xs := digs m.natAbs) (by simp)
  · exact (fin3 L2.out Rr_2.out noint3 Gr).1

set_option maxHeartbeats 4000000 in
set_option maxRecDepth 100000 in
theorem r5scale_t (A : Option Addr) (c : Nat) (m x n : Int) (w : World) (h : Dg w A c (digs m.natAbs)) (hl : (digs m.natAbs).length ≤ 10000) (r1 : Rt m x) (hn : -100000 ≤ n ∧ n ≤ 100000) (m0 : m ≠ 0) {K F V : Int} (hq : tot m (x + n) = (K, F, V)):
    Calls Tryd.prog 30 #[.agg #[.bool (decide (m < 0)), .slice A (digs m.natAbs).length c, .int .i64 x], .int .i64 n] w fun e w' => Ye K F V w e w' := by
  have lx := Lib.hid hl
  have HR1 := Lib.hid r1
  have d1 : decide (n < -100000) = false := by simp; omega
  have d2 : decide (100000 < n) = false := by simp; omega
  have t1 : ((((digs m.natAbs).length : Nat) : Int) == 0) = false := beq_eq_false_iff_ne.2 (fun e => m0 (by have := digs_nil.1 (show (digs m.natAbs).length = 0 by omega); omega))
  have x0 := r1.2.1
  have x1 := r1.2.2
  have z0 : -1000000000 ≤ x + n := by omega
  have z1 : x + n ≤ 1000000000 := by omega
  have SB := Lib.hid (show -10000000 ≤ x + n ∧ x + n ≤ 10000000 by omega)
  have HQ := Lib.hid hq
  have L0 := Lib.hid ((live_start w).add h)
  clear h hl hn m0 hq x0 x1 r1
  go_enter Tryd.func30, Tryd.ntmps30
  go_wp2_with fail
  obtain ⟨v1, hW, hb, Rx_1, Rr_1⟩ := new2 w (.cells #[.bool (decide (m < 0)), .slice A (digs m.natAbs).length c, .int .i64 x] 26) (.cells #[.bool false, .slice none 0 0, .int .i64 0] 26)
  rw [← hW]
  have L1 := ls L0 hb
  have Gx := gl0 L0.out
  have Gr := gl1 L0.out
  have Nxr : w.heap.size < w.heap.size + 1 := by omega
  clear hW hb
  refine (r5right_t (L1.out.get (A := A) (c := c) (xs := digs m.natAbs) (by simp)) lx.out HR1.out).mono ?_
  rintro e w2 ⟨rfl, hb⟩
  have L2 := ls L1 hb
  have Rx_2 := co Rx_1 hb
  have Rr_2 := co Rr_1 hb
  clear hb 
  obtain ⟨fx0, zx0, fx1, zx1, fx2, zx2, xx⟩ := ly3 Rx_2.out
  go_wp2_with fail
  refine (r5told (L2.out.get (A := A) (c := c) (xs := digs m.natAbs) (by simp)) (Nat.le_trans lx.out (by omega)) SB.out.1 SB.out.2 HQ.out).mono ?_
  rintro e w3 ⟨A3, c3, rfl, hd, hb⟩
  have L3 := la L2 hb hd
  clear fx0 zx0 fx1 zx1 fx2 zx2 xx
  have Rx_3 := co Rx_2 hb
  have Rr_3 := co Rr_2 hb
  clear hb hd
  obtain ⟨fr0, zr0, fr1, zr1, fr2, zr2, xr⟩ := ly3 Rr_3.out
  go_wp2
  refine bodyPost_ret (v := .tuple #[.agg #[.bool (decide (K < 0)), .slice A3 (digs K.natAbs).length c3, .int .i64 F], .int .i64 V]) (by simp [results, Tryd.results30, go_sem, fr0, fr1, fr2]) rfl ?_
  
  refine ⟨A3, c3, rfl, ?_, ?_⟩
  · exact (fin3 L3.out Rr_3.out noint3 Gr).get (A := A3) (c := c3) (xs := digs K.natAbs) (by simp)
  · exact (fin3 L3.out Rr_3.out noint3 Gr).1
end Go.Proofs.YtaciohjobenipaaDoor
end

section
/-
  dyad, in range or not: Sub, Mul.
-/
namespace Go.Proofs.YtaciohjobenipaaDoor
open Go.RowKit
set_option linter.unusedSimpArgs false
set_option linter.unusedVariables false
theorem add_len {m n x y M E : Int} (hl : (digs m.natAbs).length ≤ 10000) (hl' : (digs n.natAbs).length ≤ 10000) (r1 : Rt m x) (r2 : Rt n y) (hs : IsD (dv m x + dv n y) M E) : (digs M.natAbs).length ≤ 900000 := by
  obtain ⟨e0, he0⟩ : ∃ e, min x y = e := ⟨_, rfl⟩
  have ez := sum_upto m x n y
  rw [he0] at ez
  have x0 := r1.2.1
  have x1 := r1.2.2
  have y0 := r2.2.1
  have y1 := r2.2.2
  have lp := upto_len2 (m := m) (x := x) (e0 := e0) hl (by omega)
  have lq := upto_len2 (m := n) (x := y) (e0 := e0) hl' (by omega)
  have hu := IsD.of (m := upto m x e0 + upto n y e0) (e := e0) (M := M) (E := E) (by rw [ez]; exact hs)
  rw [← hu.1]
  have h1 := digs_len_mono _ _ (by omega : (upto m x e0 + upto n y e0).natAbs ≤ (upto m x e0).natAbs + (upto n y e0).natAbs)
  have h2 := digs_add_len (upto m x e0).natAbs (upto n y e0).natAbs
  have h3 := nm_len (upto m x e0 + upto n y e0)
  omega

theorem tadd {A B : Option Addr} {c d : Nat} {m n x y M E K F V : Int} {w : World} (h : Dg w A c (digs m.natAbs)) (h' : Dg w B d (digs n.natAbs)) (hl : (digs m.natAbs).length ≤ 10000) (hl' : (digs n.natAbs).length ≤ 10000) (r1 : Rt m x) (r2 : Rt n y) (hT : T32 w) (hs : IsD (dv m x + dv n y) M E) (hq : tot M E = (K, F, V)) :
    Calls Tryd.prog 23 #[.agg #[.bool (decide (m < 0)), .slice A (digs m.natAbs).length c, .int .i64 x], .agg #[.bool (decide (n < 0)), .slice B (digs n.natAbs).length d, .int .i64 y]] w fun e w' => Ye K F V w e w' := by
  have hlm : (digs M.natAbs).length ≤ 900000 := add_len hl hl' r1 r2 hs
  by_cases m0 : m = 0
  · exact tadd_z_ A B c d m n x y M E w h h' hl hl' r1 r2 hT hs hlm hq m0
  · by_cases n0 : n = 0
    · exact tadd_y_ A B c d m n x y M E w h h' hl hl' r1 r2 hT hs hlm hq m0 n0
    · exact tadd_b_ A B c d m n x y M E w h h' hl hl' r1 r2 hT hs hlm hq m0 n0

set_option maxHeartbeats 4000000 in
set_option maxRecDepth 100000 in
theorem tsub_yes_ (A B : Option Addr) (c d : Nat) (m n x y : Int) (M E : Int) (w : World) (h : Dg w A c (digs m.natAbs)) (h' : Dg w B d (digs n.natAbs)) (hl : (digs m.natAbs).length ≤ 10000) (hl' : (digs n.natAbs).length ≤ 10000) (r1 : Rt m x) (r2 : Rt n y) (hT : T32 w) (hs : IsD (dv m x - dv n y) M E) {K F V : Int} (hq : tot M E = (K, F, V)):
    Calls Tryd.prog 25 #[.agg #[.bool (decide (m < 0)), .slice A (digs m.natAbs).length c, .int .i64 x], .agg #[.bool (decide (n < 0)), .slice B (digs n.natAbs).length d, .int .i64 y]] w fun e w' => Ye K F V w e w' := by
  have HR1 := Lib.hid r1
  have HR2 := Lib.hid r2
  have lx := Lib.hid hl
  have ly := Lib.hid hl'
  have HQ := Lib.hid hq
  have x0 := r1.2.1
  have x1 := r1.2.2
  have y0 := r2.2.1
  have y1 := r2.2.2
  have NG := Lib.hid (fun W (hW : Dg W B d (digs n.natAbs)) => neg_yes B d n y W hW (by omega) r2)
  obtain ⟨k, hk⟩ : ∃ k, -n = k := ⟨_, rfl⟩
  have rk := Lib.hid (hk ▸ rt_neg r2)
  have lk := Lib.hid (show (digs k.natAbs).length ≤ 10000 by rw [← hk, Int.natAbs_neg]; exact hl')
  rw [hk] at NG
  have HS := Lib.hid (show IsD (dv m x + dv k y) M E by rw [← hk, dv_neg, ← Rat.sub_eq_add_neg]; exact hs)
  have HT := Lib.hid hT
  clear hT
  have L0 := Lib.hid (((live_start w).add h).add h')
  clear h h' hl hl' r1 r2 hs hq hk
  go_enter Tryd.func25, Tryd.ntmps25
  go_wp2_with fail
  obtain ⟨v1, hW, hb, Rx_1, Ry_1, Rr_1, Rsl_1⟩ := new4 w (.cells #[.bool (decide (m < 0)), .slice A (digs m.natAbs).length c, .int .i64 x] 26) (.cells #[.bool (decide (n < 0)), .slice B (digs n.natAbs).length d, .int .i64 y] 26) (.cells #[.bool false, .slice none 0 0, .int .i64 0] 26) (.cells #[.bool (decide (m < 0)), .slice A (digs m.natAbs).length c, .int .i64 x, .bool (decide (n < 0)), .slice B (digs n.natAbs).length d, .int .i64 y] 26)
  rw [← hW]
  have L1 := ls L0 hb
  have Gx := gl0 L0.out
  have Gy := gl1 L0.out
  have Nxy : w.heap.size < w.heap.size + 1 := by omega
  have Gr := gl2 L0.out
  have Nxr : w.heap.size < w.heap.size + 1 + 1 := by omega
  have Nyr : w.heap.size + 1 < w.heap.size + 1 + 1 := by omega
  have Gsl := gl3 L0.out
  have Nxsl : w.heap.size < w.heap.size + 1 + 1 + 1 := by omega
  have Nysl : w.heap.size + 1 < w.heap.size + 1 + 1 + 1 := by omega
  have Nrsl : w.heap.size + 1 + 1 < w.heap.size + 1 + 1 + 1 := by omega
  clear hW hb
  refine (begin_2 Rsl_1.out (L1.out.get (A := A) (c := c) (xs := digs m.natAbs) (by simp)) (L1.out.get (A := B) (c := d) (xs := digs n.natAbs) (by simp)) (dyR_num HR1.out) (dyR_num HR2.out) (Nat.le_trans lx.out (by omega)) (Nat.le_trans ly.out (by omega)) (k := 0) rfl).mono ?_
  rintro e w2 ⟨rfl, hb⟩
  have L2 := ls L1 hb
  have Rx_2 := co Rx_1 hb
  have Ry_2 := co Ry_1 hb
  have Rr_2 := co Rr_1 hb
  have Rsl_2 := co Rsl_1 hb
  clear hb 
  go_wp2_with fail
  obtain ⟨w3, hW, hb, Rk_3⟩ := new1 w2 (.cells #[.int .i64 0] 66)
  rw [← hW]
  have L3 := ls L2 hb
  have Rx_3 := co Rx_2 hb
  have Ry_3 := co Ry_2 hb
  have Rr_3 := co Rr_2 hb
  have Rsl_3 := co Rsl_2 hb
  have Gk := gl0 L2.out
  have Nxk := nl0 Rx_2.out
  have Nyk := nl0 Ry_2.out
  have Nrk := nl0 Rr_2.out
  have Nslk := nl0 Rsl_2.out
  clear hW hb
  refine (fails_any _ 0 false _ (row_c Rk_3.out (i := 0) rfl) rfl).mono ?_
  rintro e w4 ⟨rfl, rfl⟩
  obtain ⟨fx0, zx0, fx1, zx1, fx2, zx2, xx⟩ := ly3 Rx_3.out
  obtain ⟨fy0, zy0, fy1, zy1, fy2, zy2, xy⟩ := ly3 Ry_3.out
  go_wp2_with fail
  clear fx0 zx0 fx1 zx1 fx2 zx2 xx fy0 zy0 fy1 zy1 fy2 zy2 xy
  obtain ⟨fx0, zx0, fx1, zx1, fx2, zx2, xx⟩ := ly3 Rx_3.out
  obtain ⟨fy0, zy0, fy1, zy1, fy2, zy2, xy⟩ := ly3 Ry_3.out
  have KD := Lib.hid (bd0 w3)
  have LD := ls L3 KD.out
  have Mx : w.heap.size ≠ w.heap.size + 1 + 1 := by omega
  have My : w.heap.size + 1 ≠ w.heap.size + 1 + 1 := by omega
  go_region_held3 (fun w' => (∀ o, w'.cell? ⟨w.heap.size, o, none⟩ = w3.cell? ⟨w.heap.size, o, none⟩) ∧ (∀ o, w'.cell? ⟨w.heap.size + 1, o, none⟩ = w3.cell? ⟨w.heap.size + 1, o, none⟩))
    (first | with_reducible exact ⟨keep_b KD.out xx, keep_b KD.out xy⟩ | with_reducible exact ⟨keep_b K6.out xx, keep_b K6.out xy⟩ | with_reducible exact ⟨keep_b K7.out xx, keep_b K7.out xy⟩ | exact ⟨(keep_set (keep_b K7.out xx) Mx), (keep_set (keep_b K7.out xy) My)⟩ | exact ⟨(keep_set (keep_set (keep_b K7.out xx) Mx) Mx), (keep_set (keep_set (keep_b K7.out xy) My) My)⟩ | exact ⟨(keep_set (keep_set (keep_set (keep_b K7.out xx) Mx) Mx) Mx), (keep_set (keep_set (keep_set (keep_b K7.out xy) My) My) My)⟩)
    (first
      | (go_at_call 15; (with_reducible refine (NG.out _ (LD.out.get (A := B) (c := d) (xs := digs n.natAbs) (by simp))).mono ?_); rintro e w6 ⟨A6, c6, rfl, hd, hb⟩; (have K6 := bt KD hb); (have L6 := la LD hb hd); clear hb hd)
      | (go_at_call 23; (with_reducible refine (tadd (L6.out.get (A := A) (c := c) (xs := digs m.natAbs) (by simp)) (L6.out.get (A := A6) (c := c6) (xs := digs k.natAbs) (by simp)) lx.out lk.out HR1.out rk.out (t32_live HT.out L6.out) HS.out HQ.out).mono ?_); rintro e w7 ⟨A7, c7, rfl, hd, hb⟩; (have K7 := bt K6 hb); (have L7 := la L6 hb hd); (have qr0_K7 := row_c (i := 0) (co Rr_3 K7.out).out rfl); (have pr0_K7 := frozen_of_row _ _ 0 _ _ (cells_of Rr_3.out K7.out)); (have qr1_K7 := row_c (i := 1) (co Rr_3 K7.out).out rfl); (have pr1_K7 := frozen_of_row _ _ 1 _ _ (cells_of Rr_3.out K7.out)); (have qr2_K7 := row_c (i := 2) (co Rr_3 K7.out).out rfl); (have pr2_K7 := frozen_of_row _ _ 2 _ _ (cells_of Rr_3.out K7.out)); clear hb hd))
  rename_i hHeld
  clear hHeld
  clear fx0 zx0 fx1 zx1 fx2 zx2 xx fy0 zy0 fy1 zy1 fy2 zy2 xy
  have Rx_7 := co Rx_3 K7.out
  have Ry_7 := co Ry_3 K7.out
  have Rr_7 := co Rr_3 K7.out
  have Rsl_7 := co Rsl_3 K7.out
  have Rk_7 := co Rk_3 K7.out
  obtain ⟨fr0, zr0, fr1, zr1, fr2, zr2, xr⟩ := ly3 Rr_7.out
  go_wp2
  refine bodyPost_ret (v := .tuple #[.agg #[.bool (decide (K < 0)), .slice A7 (digs K.natAbs).length c7, .int .i64 F], .int .i64 V]) (by simp [results, Tryd.results25, go_sem, fr0, fr1, fr2]) rfl ?_
  
  refine ⟨A7, c7, rfl, ?_, ?_⟩
  · exact (fin3 L7.out Rr_7.out noint3 Gr).get (A := A7) (c := c7) (xs := digs K.natAbs) (by simp)
  · exact (fin3 L7.out Rr_7.out noint3 Gr).1

set_option maxHeartbeats 4000000 in
set_option maxRecDepth 100000 in
theorem tmul_yes_ (A B : Option Addr) (c d : Nat) (m n x y : Int) (M E : Int) (w : World) (h : Dg w A c (digs m.natAbs)) (h' : Dg w B d (digs n.natAbs)) (hl : (digs m.natAbs).length ≤ 10000) (hl' : (digs n.natAbs).length ≤ 10000) (r1 : Rt m x) (r2 : Rt n y) (hT : T32 w) (hs : IsD (dv m x * dv n y) M E) {K F V : Int} (hq : tot M E = (K, F, V)):
    Calls Tryd.prog 27 #[.agg #[.bool (decide (m < 0)), .slice A (digs m.natAbs).length c, .int .i64 x], .agg #[.bool (decide (n < 0)), .slice B (digs n.natAbs).length d, .int .i64 y]] w fun e w' => Ye K F V w e w' := by
  have HR1 := Lib.hid r1
  have HR2 := Lib.hid r2
  have lx := Lib.hid hl
  have ly := Lib.hid hl'
  have HQ := Lib.hid hq
  have x0 := r1.2.1
  have x1 := r1.2.2
  have y0 := r2.2.1
  have y1 := r2.2.2
  obtain ⟨z, hz⟩ : ∃ z, m * n = z := ⟨_, rfl⟩
  obtain ⟨s, hs1⟩ : ∃ s, x + y = s := ⟨_, rfl⟩
  rw [dv_mul, hz, hs1] at hs
  have hu := IsD.of hs
  have HM := Lib.hid hu.1
  have HE := Lib.hid hu.2
  have HZ := Lib.hid hz
  have lz : (digs z.natAbs).length ≤ 20000 := by
    rw [← hz, Int.natAbs_mul]
    have := digs_mul_len m.natAbs n.natAbs
    omega
  have LZ := Lib.hid lz
  have LM := Lib.hid (show (digs M.natAbs).length ≤ 900000 by rw [← hu.1]; have := nm_len z; omega)
  have ws : IntKind.i64.wrap (x + y) = s := by rw [IntWalk.i64_in _ (by omega)]; exact hs1
  have z0 : -1000000000 ≤ s := by omega
  have z1 : s ≤ 1000000000 := by omega
  have HT := Lib.hid hT
  clear hT
  have L0 := Lib.hid (((live_start w).add h).add h')
  clear h h' hl hl' r1 r2 hs hq hz hs1 hu lz
  go_enter Tryd.func27, Tryd.ntmps27
  go_wp2_with fail
  obtain ⟨v1, hW, hb, Rx_1, Ry_1, Rr_1, Rsl_1⟩ := new4 w (.cells #[.bool (decide (m < 0)), .slice A (digs m.natAbs).length c, .int .i64 x] 26) (.cells #[.bool (decide (n < 0)), .slice B (digs n.natAbs).length d, .int .i64 y] 26) (.cells #[.bool false, .slice none 0 0, .int .i64 0] 26) (.cells #[.bool (decide (m < 0)), .slice A (digs m.natAbs).length c, .int .i64 x, .bool (decide (n < 0)), .slice B (digs n.natAbs).length d, .int .i64 y] 26)
  rw [← hW]
  have L1 := ls L0 hb
  have Gx := gl0 L0.out
  have Gy := gl1 L0.out
  have Nxy : w.heap.size < w.heap.size + 1 := by omega
  have Gr := gl2 L0.out
  have Nxr : w.heap.size < w.heap.size + 1 + 1 := by omega
  have Nyr : w.heap.size + 1 < w.heap.size + 1 + 1 := by omega
  have Gsl := gl3 L0.out
  have Nxsl : w.heap.size < w.heap.size + 1 + 1 + 1 := by omega
  have Nysl : w.heap.size + 1 < w.heap.size + 1 + 1 + 1 := by omega
  have Nrsl : w.heap.size + 1 + 1 < w.heap.size + 1 + 1 + 1 := by omega
  clear hW hb
  refine (begin_2 Rsl_1.out (L1.out.get (A := A) (c := c) (xs := digs m.natAbs) (by simp)) (L1.out.get (A := B) (c := d) (xs := digs n.natAbs) (by simp)) (dyR_num HR1.out) (dyR_num HR2.out) (Nat.le_trans lx.out (by omega)) (Nat.le_trans ly.out (by omega)) (k := 0) rfl).mono ?_
  rintro e w2 ⟨rfl, hb⟩
  have L2 := ls L1 hb
  have Rx_2 := co Rx_1 hb
  have Ry_2 := co Ry_1 hb
  have Rr_2 := co Rr_1 hb
  have Rsl_2 := co Rsl_1 hb
  clear hb 
  go_wp2_with fail
  obtain ⟨w3, hW, hb, Rk_3⟩ := new1 w2 (.cells #[.int .i64 0] 66)
  rw [← hW]
  have L3 := ls L2 hb
  have Rx_3 := co Rx_2 hb
  have Ry_3 := co Ry_2 hb
  have Rr_3 := co Rr_2 hb
  have Rsl_3 := co Rsl_2 hb
  have Gk := gl0 L2.out
  have Nxk := nl0 Rx_2.out
  have Nyk := nl0 Ry_2.out
  have Nrk := nl0 Rr_2.out
  have Nslk := nl0 Rsl_2.out
  clear hW hb
  refine (fails_any _ 0 false _ (row_c Rk_3.out (i := 0) rfl) rfl).mono ?_
  rintro e w4 ⟨rfl, rfl⟩
  obtain ⟨fx0, zx0, fx1, zx1, fx2, zx2, xx⟩ := ly3 Rx_3.out
  obtain ⟨fy0, zy0, fy1, zy1, fy2, zy2, xy⟩ := ly3 Ry_3.out
  go_wp2_with fail
  clear fx0 zx0 fx1 zx1 fx2 zx2 xx fy0 zy0 fy1 zy1 fy2 zy2 xy
  obtain ⟨fx0, zx0, fx1, zx1, fx2, zx2, xx⟩ := ly3 Rx_3.out
  obtain ⟨fy0, zy0, fy1, zy1, fy2, zy2, xy⟩ := ly3 Ry_3.out
  obtain ⟨fr0, zr0, fr1, zr1, fr2, zr2, xr⟩ := ly3 Rr_3.out
  obtain ⟨fk0, zk0, xk⟩ := ly1 Rk_3.out
  have KD := Lib.hid (bd0 w3)
  have LD := ls L3 KD.out
  have Mxr : w.heap.size ≠ w.heap.size + 1 + 1 := by omega
  have Myr : w.heap.size + 1 ≠ w.heap.size + 1 + 1 := by omega
  have Mxk : w.heap.size < w2.heap.size := by omega
  have Myk : w.heap.size + 1 < w2.heap.size := by omega
  have Mrk : w.heap.size + 1 + 1 < w2.heap.size := by omega
  have S0 := Lib.hid (show (∀ o, w3.drew.cell? ⟨w.heap.size, o, none⟩ = w3.cell? ⟨w.heap.size, o, none⟩) ∧ (∀ o, w3.drew.cell? ⟨w.heap.size + 1, o, none⟩ = w3.cell? ⟨w.heap.size + 1, o, none⟩) from ⟨keep_b KD.out xx, keep_b KD.out xy⟩)
  go_region_held3 (fun w' => (∀ o, w'.cell? ⟨w.heap.size, o, none⟩ = w3.cell? ⟨w.heap.size, o, none⟩) ∧ (∀ o, w'.cell? ⟨w.heap.size + 1, o, none⟩ = w3.cell? ⟨w.heap.size + 1, o, none⟩))
    (first | with_reducible exact S0.out | with_reducible exact S1.out | with_reducible exact S2.out | with_reducible exact S3.out | with_reducible exact ⟨(keep_set S3.out.1 Mxr), (keep_set S3.out.2 Myr)⟩ | with_reducible exact ⟨(keep_set (keep_set S3.out.1 Mxr) Mxr), (keep_set (keep_set S3.out.2 Myr) Myr)⟩ | with_reducible exact ⟨(keep_set (keep_set (keep_set S3.out.1 Mxr) Mxr) Mxr), (keep_set (keep_set (keep_set S3.out.2 Myr) Myr) Myr)⟩)
    (first
      | (go_at_call 64; (with_reducible refine (zmul_d (LD.out.get (A := A) (c := c) (xs := digs m.natAbs) (by simp)) (LD.out.get (A := B) (c := d) (xs := digs n.natAbs) (by simp)) (Nat.le_trans lx.out (by omega)) (Nat.le_trans ly.out (by omega)) HZ.out).mono ?_); rintro e q1 ⟨A1, c1, rfl, hd, hb⟩; (have K1 := bt KD hb); (have L1 := la LD hb hd); (have S1 := Lib.hid (show (∀ o, q1.cell? ⟨w.heap.size, o, none⟩ = w3.cell? ⟨w.heap.size, o, none⟩) ∧ (∀ o, q1.cell? ⟨w.heap.size + 1, o, none⟩ = w3.cell? ⟨w.heap.size + 1, o, none⟩) from ⟨keep_b K1.out xx, keep_b K1.out xy⟩)); clear hb hd)
      | (go_at_call 37; (with_reducible refine (odd_d (L1.out.get (A := A1) (c := c1) (xs := digs z.natAbs) (by simp)) (Nat.le_trans LZ.out (by omega)) (t32_live HT.out L1.out) z0 z1 HM.out HE.out).mono ?_); rintro e q2 ⟨A2, c2, rfl, hd, hb⟩; (have K2 := bt K1 hb); (have L2 := la L1 hb hd); (have S2 := Lib.hid (show (∀ o, q2.cell? ⟨w.heap.size, o, none⟩ = w3.cell? ⟨w.heap.size, o, none⟩) ∧ (∀ o, q2.cell? ⟨w.heap.size + 1, o, none⟩ = w3.cell? ⟨w.heap.size + 1, o, none⟩) from ⟨keep_b K2.out xx, keep_b K2.out xy⟩)); (have R2 := co Rk_3 K2.out); clear hb hd)
      | (go_at_call 59; (with_reducible refine (answer_t R2.out (L2.out.get (A := A2) (c := c2) (xs := digs M.natAbs) (by simp)) (Nat.le_trans LM.out (by omega)) HQ.out).mono ?_); rintro e q3 ⟨A3, c3, rfl, hd, hb⟩; (have S3 := Lib.hid (show (∀ o, q3.cell? ⟨w.heap.size, o, none⟩ = w3.cell? ⟨w.heap.size, o, none⟩) ∧ (∀ o, q3.cell? ⟨w.heap.size + 1, o, none⟩ = w3.cell? ⟨w.heap.size + 1, o, none⟩) from ⟨fun o => (hb.cell (p := ⟨w.heap.size, o, none⟩) Mxk).trans (S2.out.1 o), fun o => (hb.cell (p := ⟨w.heap.size + 1, o, none⟩) Myk).trans (S2.out.2 o)⟩)); (have R3 := Lib.hid ((hb.block _ Mrk).trans (cells_of Rr_3.out K2.out))); (have L3 := Lib.hid (live_upto L2.out.1 hb Gk hd)); (have f0 := row_c (i := 0) R3.out rfl); (have p0 := frozen_of_row _ _ 0 _ _ R3.out); (have f1 := row_c (i := 1) R3.out rfl); (have p1 := frozen_of_row _ _ 1 _ _ R3.out); (have f2 := row_c (i := 2) R3.out rfl); (have p2 := frozen_of_row _ _ 2 _ _ R3.out); clear hb hd))
  rename_i hHeld
  clear hHeld
  clear fx0 zx0 fx1 zx1 fx2 zx2 xx fy0 zy0 fy1 zy1 fy2 zy2 xy fr0 zr0 fr1 zr1 fr2 zr2 xr fk0 zk0 xk
  clear ws
  obtain ⟨fr0, zr0, fr1, zr1, fr2, zr2, xr⟩ := ly3 R3.out
  go_wp2
  refine bodyPost_ret (v := .tuple #[.agg #[.bool (decide (K < 0)), .slice A3 (digs K.natAbs).length c3, .int .i64 F], .int .i64 V]) (by simp [results, Tryd.results27, go_sem, fr0, fr1, fr2]) rfl ?_
  
  refine ⟨A3, c3, rfl, ?_, ?_⟩
  · exact (fin3 L3.out R3.out noint3 Gr).get (A := A3) (c := c3) (xs := digs K.natAbs) (by simp)
  · exact (fin3 L3.out R3.out noint3 Gr).1

theorem tsub {A B : Option Addr} {c d : Nat} {m n x y M E K F V : Int} {w : World} (h : Dg w A c (digs m.natAbs)) (h' : Dg w B d (digs n.natAbs)) (hl : (digs m.natAbs).length ≤ 10000) (hl' : (digs n.natAbs).length ≤ 10000) (r1 : Rt m x) (r2 : Rt n y) (hT : T32 w) (hs : IsD (dv m x - dv n y) M E) (hq : tot M E = (K, F, V)) :
    Calls Tryd.prog 25 #[.agg #[.bool (decide (m < 0)), .slice A (digs m.natAbs).length c, .int .i64 x], .agg #[.bool (decide (n < 0)), .slice B (digs n.natAbs).length d, .int .i64 y]] w fun e w' => Ye K F V w e w' := tsub_yes_ A B c d m n x y M E w h h' hl hl' r1 r2 hT hs hq
theorem tmul {A B : Option Addr} {c d : Nat} {m n x y M E K F V : Int} {w : World} (h : Dg w A c (digs m.natAbs)) (h' : Dg w B d (digs n.natAbs)) (hl : (digs m.natAbs).length ≤ 10000) (hl' : (digs n.natAbs).length ≤ 10000) (r1 : Rt m x) (r2 : Rt n y) (hT : T32 w) (hs : IsD (dv m x * dv n y) M E) (hq : tot M E = (K, F, V)) :
    Calls Tryd.prog 27 #[.agg #[.bool (decide (m < 0)), .slice A (digs m.natAbs).length c, .int .i64 x], .agg #[.bool (decide (n < 0)), .slice B (digs n.natAbs).length d, .int .i64 y]] w fun e w' => Ye K F V w e w' := tmul_yes_ A B c d m n x y M E w h h' hl hl' r1 r2 hT hs hq
end Go.Proofs.YtaciohjobenipaaDoor
end

section
/-
  dyad.Add, Sub, Mul of numbers that are not right.
-/
namespace Go.Proofs.YtaciohjobenipaaDoor
open Go.RowKit
set_option linter.unusedSimpArgs false
set_option linter.unusedVariables false
set_option maxHeartbeats 4000000 in
set_option maxRecDepth 100000 in
theorem dadd_no (A B : Option Addr) (c d : Nat) (s r : Bool) (xs ys : List Nat) (x y : Int) (w : World) (h : Dg w A c xs) (h' : Dg w B d ys) (hl : xs.length ≤ 9223372036854775807) (hl' : ys.length ≤ 9223372036854775807) (hq : (dyR s xs x && dyR r ys y) = false):
    Calls Tryd.prog 23 #[.agg #[.bool s, .slice A xs.length c, .int .i64 x], .agg #[.bool r, .slice B ys.length d, .int .i64 y]] w fun e w' => e = .returned (.tuple #[.agg #[.bool false, .slice none 0 0, .int .i64 0], .int .i64 1]) ∧ Below w.heap.size w w' := by
  have lx := Lib.hid hl
  have ly := Lib.hid hl'
  have HQ := Lib.hid hq
  have L0 := Lib.hid (((live_start w).add h).add h')
  clear h h' hl hl' hq
  go_enter Tryd.func23, Tryd.ntmps23
  go_wp2_with fail
  obtain ⟨v1, hW, hb, Rx_1, Ry_1, Rr_1, Rsl_1⟩ := new4 w (.cells #[.bool s, .slice A xs.length c, .int .i64 x] 26) (.cells #[.bool r, .slice B ys.length d, .int .i64 y] 26) (.cells #[.bool false, .slice none 0 0, .int .i64 0] 26) (.cells #[.bool s, .slice A xs.length c, .int .i64 x, .bool r, .slice B ys.length d, .int .i64 y] 26)
  rw [← hW]
  have L1 := ls L0 hb
  have Gx := gl0 L0.out
  have Gy := gl1 L0.out
  have Nxy : w.heap.size < w.heap.size + 1 := by omega
  have Gr := gl2 L0.out
  have Nxr : w.heap.size < w.heap.size + 1 + 1 := by omega
  have Nyr : w.heap.size + 1 < w.heap.size + 1 + 1 := by omega
  have Gsl := gl3 L0.out
  have Nxsl : w.heap.size < w.heap.size + 1 + 1 + 1 := by omega
  have Nysl : w.heap.size + 1 < w.heap.size + 1 + 1 + 1 := by omega
  have Nrsl : w.heap.size + 1 + 1 < w.heap.size + 1 + 1 + 1 := by omega
  clear hW hb
  refine (begin_2 Rsl_1.out (L1.out.get (A := A) (c := c) (xs := xs) (by simp)) (L1.out.get (A := B) (c := d) (xs := ys) (by simp)) rfl rfl lx.out ly.out (k := 1) (by rw [HQ.out]; rfl)).mono ?_
  rintro e w2 ⟨rfl, hb⟩
  have L2 := ls L1 hb
  have Rx_2 := co Rx_1 hb
  have Ry_2 := co Ry_1 hb
  have Rr_2 := co Rr_1 hb
  have Rsl_2 := co Rsl_1 hb
  clear hb 
  go_wp2_with fail
  obtain ⟨w3, hW, hb, Rk_3⟩ := new1 w2 (.cells #[.int .i64 1] 66)
  rw [← hW]
  have L3 := ls L2 hb
  have Rx_3 := co Rx_2 hb
  have Ry_3 := co Ry_2 hb
  have Rr_3 := co Rr_2 hb
  have Rsl_3 := co Rsl_2 hb
  have Gk := gl0 L2.out
  have Nxk := nl0 Rx_2.out
  have Nyk := nl0 Ry_2.out
  have Nrk := nl0 Rr_2.out
  have Nslk := nl0 Rsl_2.out
  clear hW hb
  refine (fails_any _ 1 true _ (row_c Rk_3.out (i := 0) rfl) rfl).mono ?_
  rintro e w4 ⟨rfl, rfl⟩
  go_wp2_with fail
  refine (none_any _ 1 _ (row_c Rk_3.out (i := 0) rfl) (heap_lt Rk_3.out)).mono ?_
  rintro e w5 ⟨rfl, hb⟩
  have L5 := ls L3 hb
  have Rx_5 := co Rx_3 hb
  have Ry_5 := co Ry_3 hb
  have Rr_5 := co Rr_3 hb
  have Rsl_5 := co Rsl_3 hb
  have Rk_5 := co Rk_3 hb
  clear hb 
  obtain ⟨fr0, zr0, fr1, zr1, fr2, zr2, xr⟩ := ly3 Rr_5.out
  go_wp2
  refine bodyPost_ret (v := .tuple #[.agg #[.bool false, .slice none 0 0, .int .i64 0], .int .i64 1]) (by simp [results, Tryd.results23, go_sem, fr0, fr1, fr2]) rfl ?_
  
  exact ⟨rfl, (fin3 L5.out Rr_5.out noint3 Gr).1⟩

set_option maxHeartbeats 4000000 in
set_option maxRecDepth 100000 in
theorem dsub_no (A B : Option Addr) (c d : Nat) (s r : Bool) (xs ys : List Nat) (x y : Int) (w : World) (h : Dg w A c xs) (h' : Dg w B d ys) (hl : xs.length ≤ 9223372036854775807) (hl' : ys.length ≤ 9223372036854775807) (hq : (dyR s xs x && dyR r ys y) = false):
    Calls Tryd.prog 25 #[.agg #[.bool s, .slice A xs.length c, .int .i64 x], .agg #[.bool r, .slice B ys.length d, .int .i64 y]] w fun e w' => e = .returned (.tuple #[.agg #[.bool false, .slice none 0 0, .int .i64 0], .int .i64 1]) ∧ Below w.heap.size w w' := by
  have lx := Lib.hid hl
  have ly := Lib.hid hl'
  have HQ := Lib.hid hq
  have L0 := Lib.hid (((live_start w).add h).add h')
  clear h h' hl hl' hq
  go_enter Tryd.func25, Tryd.ntmps25
  go_wp2_with fail
  obtain ⟨v1, hW, hb, Rx_1, Ry_1, Rr_1, Rsl_1⟩ := new4 w (.cells #[.bool s, .slice A xs.length c, .int .i64 x] 26) (.cells #[.bool r, .slice B ys.length d, .int .i64 y] 26) (.cells #[.bool false, .slice none 0 0, .int .i64 0] 26) (.cells #[.bool s, .slice A xs.length c, .int .i64 x, .bool r, .slice B ys.length d, .int .i64 y] 26)
  rw [← hW]
  have L1 := ls L0 hb
  have Gx := gl0 L0.out
  have Gy := gl1 L0.out
  have Nxy : w.heap.size < w.heap.size + 1 := by omega
  have Gr := gl2 L0.out
  have Nxr : w.heap.size < w.heap.size + 1 + 1 := by omega
  have Nyr : w.heap.size + 1 < w.heap.size + 1 + 1 := by omega
  have Gsl := gl3 L0.out
  have Nxsl : w.heap.size < w.heap.size + 1 + 1 + 1 := by omega
  have Nysl : w.heap.size + 1 < w.heap.size + 1 + 1 + 1 := by omega
  have Nrsl : w.heap.size + 1 + 1 < w.heap.size + 1 + 1 + 1 := by omega
  clear hW hb
  refine (begin_2 Rsl_1.out (L1.out.get (A := A) (c := c) (xs := xs) (by simp)) (L1.out.get (A := B) (c := d) (xs := ys) (by simp)) rfl rfl lx.out ly.out (k := 1) (by rw [HQ.out]; rfl)).mono ?_
  rintro e w2 ⟨rfl, hb⟩
  have L2 := ls L1 hb
  have Rx_2 := co Rx_1 hb
  have Ry_2 := co Ry_1 hb
  have Rr_2 := co Rr_1 hb
  have Rsl_2 := co Rsl_1 hb
  clear hb 
  go_wp2_with fail
  obtain ⟨w3, hW, hb, Rk_3⟩ := new1 w2 (.cells #[.int .i64 1] 66)
  rw [← hW]
  have L3 := ls L2 hb
  have Rx_3 := co Rx_2 hb
  have Ry_3 := co Ry_2 hb
  have Rr_3 := co Rr_2 hb
  have Rsl_3 := co Rsl_2 hb
  have Gk := gl0 L2.out
  have Nxk := nl0 Rx_2.out
  have Nyk := nl0 Ry_2.out
  have Nrk := nl0 Rr_2.out
  have Nslk := nl0 Rsl_2.out
  clear hW hb
  refine (fails_any _ 1 true _ (row_c Rk_3.out (i := 0) rfl) rfl).mono ?_
  rintro e w4 ⟨rfl, rfl⟩
  go_wp2_with fail
  refine (none_any _ 1 _ (row_c Rk_3.out (i := 0) rfl) (heap_lt Rk_3.out)).mono ?_
  rintro e w5 ⟨rfl, hb⟩
  have L5 := ls L3 hb
  have Rx_5 := co Rx_3 hb
  have Ry_5 := co Ry_3 hb
  have Rr_5 := co Rr_3 hb
  have Rsl_5 := co Rsl_3 hb
  have Rk_5 := co Rk_3 hb
  clear hb 
  obtain ⟨fr0, zr0, fr1, zr1, fr2, zr2, xr⟩ := ly3 Rr_5.out
  go_wp2
  refine bodyPost_ret (v := .tuple #[.agg #[.bool false, .slice none 0 0, .int .i64 0], .int .i64 1]) (by simp [results, Tryd.results25, go_sem, fr0, fr1, fr2]) rfl ?_
  
  exact ⟨rfl, (fin3 L5.out Rr_5.out noint3 Gr).1⟩

set_option maxHeartbeats 4000000 in
set_option maxRecDepth 100000 in
theorem dmul_no (A B : Option Addr) (c d : Nat) (s r : Bool) (xs ys : List Nat) (x y : Int) (w : World) (h : Dg w A c xs) (h' : Dg w B d ys) (hl : xs.length ≤ 9223372036854775807) (hl' : ys.length ≤ 9223372036854775807) (hq : (dyR s xs x && dyR r ys y) = false):
    Calls Tryd.prog 27 #[.agg #[.bool s, .slice A xs.length c, .int .i64 x], .agg #[.bool r, .slice B ys.length d, .int .i64 y]] w fun e w' => e = .returned (.tuple #[.agg #[.bool false, .slice none 0 0, .int .i64 0], .int .i64 1]) ∧ Below w.heap.size w w' := by
  have lx := Lib.hid hl
  have ly := Lib.hid hl'
  have HQ := Lib.hid hq
  have L0 := Lib.hid (((live_start w).add h).add h')
  clear h h' hl hl' hq
  go_enter Tryd.func27, Tryd.ntmps27
  go_wp2_with fail
  obtain ⟨v1, hW, hb, Rx_1, Ry_1, Rr_1, Rsl_1⟩ := new4 w (.cells #[.bool s, .slice A xs.length c, .int .i64 x] 26) (.cells #[.bool r, .slice B ys.length d, .int .i64 y] 26) (.cells #[.bool false, .slice none 0 0, .int .i64 0] 26) (.cells #[.bool s, .slice A xs.length c, .int .i64 x, .bool r, .slice B ys.length d, .int .i64 y] 26)
  rw [← hW]
  have L1 := ls L0 hb
  have Gx := gl0 L0.out
  have Gy := gl1 L0.out
  have Nxy : w.heap.size < w.heap.size + 1 := by omega
  have Gr := gl2 L0.out
  have Nxr : w.heap.size < w.heap.size + 1 + 1 := by omega
  have Nyr : w.heap.size + 1 < w.heap.size + 1 + 1 := by omega
  have Gsl := gl3 L0.out
  have Nxsl : w.heap.size < w.heap.size + 1 + 1 + 1 := by omega
  have Nysl : w.heap.size + 1 < w.heap.size + 1 + 1 + 1 := by omega
  have Nrsl : w.heap.size + 1 + 1 < w.heap.size + 1 + 1 + 1 := by omega
  clear hW hb
  refine (begin_2 Rsl_1.out (L1.out.get (A := A) (c := c) (xs := xs) (by simp)) (L1.out.get (A := B) (c := d) (xs := ys) (by simp)) rfl rfl lx.out ly.out (k := 1) (by rw [HQ.out]; rfl)).mono ?_
  rintro e w2 ⟨rfl, hb⟩
  have L2 := ls L1 hb
  have Rx_2 := co Rx_1 hb
  have Ry_2 := co Ry_1 hb
  have Rr_2 := co Rr_1 hb
  have Rsl_2 := co Rsl_1 hb
  clear hb 
  go_wp2_with fail
  obtain ⟨w3, hW, hb, Rk_3⟩ := new1 w2 (.cells #[.int .i64 1] 66)
  rw [← hW]
  have L3 := ls L2 hb
  have Rx_3 := co Rx_2 hb
  have Ry_3 := co Ry_2 hb
  have Rr_3 := co Rr_2 hb
  have Rsl_3 := co Rsl_2 hb
  have Gk := gl0 L2.out
  have Nxk := nl0 Rx_2.out
  have Nyk := nl0 Ry_2.out
  have Nrk := nl0 Rr_2.out
  have Nslk := nl0 Rsl_2.out
  clear hW hb
  refine (fails_any _ 1 true _ (row_c Rk_3.out (i := 0) rfl) rfl).mono ?_
  rintro e w4 ⟨rfl, rfl⟩
  go_wp2_with fail
  refine (none_any _ 1 _ (row_c Rk_3.out (i := 0) rfl) (heap_lt Rk_3.out)).mono ?_
  rintro e w5 ⟨rfl, hb⟩
  have L5 := ls L3 hb
  have Rx_5 := co Rx_3 hb
  have Ry_5 := co Ry_3 hb
  have Rr_5 := co Rr_3 hb
  have Rsl_5 := co Rsl_3 hb
  have Rk_5 := co Rk_3 hb
  clear hb 
  obtain ⟨fr0, zr0, fr1, zr1, fr2, zr2, xr⟩ := ly3 Rr_5.out
  go_wp2
  refine bodyPost_ret (v := .tuple #[.agg #[.bool false, .slice none 0 0, .int .i64 0], .int .i64 1]) (by simp [results, Tryd.results27, go_sem, fr0, fr1, fr2]) rfl ?_
  
  exact ⟨rfl, (fin3 L5.out Rr_5.out noint3 Gr).1⟩
end Go.Proofs.YtaciohjobenipaaDoor
end

section
/-
  dyad.Scale of a number that is not right, or too far.
-/
namespace Go.Proofs.YtaciohjobenipaaDoor
open Go.RowKit
set_option linter.unusedSimpArgs false
set_option linter.unusedVariables false
set_option maxHeartbeats 4000000 in
set_option maxRecDepth 100000 in
theorem scale_wl (A : Option Addr) (c : Nat) (s : Bool) (xs : List Nat) (x n : Int) (w : World) (h : Dg w A c xs) (hl : xs.length ≤ 9223372036854775807) (hq : dyR s xs x = false) (hn : n < -100000):
    Calls Tryd.prog 29 #[.agg #[.bool s, .slice A xs.length c, .int .i64 x], .int .i64 n] w fun e w' => e = .returned (.tuple #[.agg #[.bool false, .slice none 0 0, .int .i64 0], .int .i64 1]) ∧ Below w.heap.size w w' := by
  have lx := Lib.hid hl
  have HQ := Lib.hid hq
  have d1 : decide (n < -100000) = true := by simp; omega
  have d2 : decide (100000 < n) = false := by simp; omega
  have L0 := Lib.hid ((live_start w).add h)
  clear h hl hq hn
  go_enter Tryd.func29, Tryd.ntmps29
  go_wp2_with fail
  obtain ⟨v1, hW, hb, Rx_1, Rr_1, Rsl_1⟩ := new3 w (.cells #[.bool s, .slice A xs.length c, .int .i64 x] 26) (.cells #[.bool false, .slice none 0 0, .int .i64 0] 26) (.cells #[.bool s, .slice A xs.length c, .int .i64 x] 26)
  rw [← hW]
  have L1 := ls L0 hb
  have Gx := gl0 L0.out
  have Gr := gl1 L0.out
  have Nxr : w.heap.size < w.heap.size + 1 := by omega
  have Gsl := gl2 L0.out
  have Nxsl : w.heap.size < w.heap.size + 1 + 1 := by omega
  have Nrsl : w.heap.size + 1 < w.heap.size + 1 + 1 := by omega
  clear hW hb
  refine (begin_1 Rsl_1.out (L1.out.get (A := A) (c := c) (xs := xs) (by simp)) HQ.out lx.out (k := 1) rfl).mono ?_
  rintro e w2 ⟨rfl, hb⟩
  have L2 := ls L1 hb
  have Rx_2 := co Rx_1 hb
  have Rr_2 := co Rr_1 hb
  have Rsl_2 := co Rsl_1 hb
  clear hb 
  go_wp2_with fail
  obtain ⟨w3, hW, hb, Rk_3⟩ := new1 w2 (.cells #[.int .i64 1] 66)
  rw [← hW]
  have L3 := ls L2 hb
  have Rx_3 := co Rx_2 hb
  have Rr_3 := co Rr_2 hb
  have Rsl_3 := co Rsl_2 hb
  have Gk := gl0 L2.out
  have Nxk := nl0 Rx_2.out
  have Nrk := nl0 Rr_2.out
  have Nslk := nl0 Rsl_2.out
  clear hW hb
  refine (tell_no _ 1 4 true _ (row_c Rk_3.out (i := 0) rfl) (.inr rfl)).mono ?_
  rintro e w4 ⟨rfl, rfl⟩
  go_wp2_with fail
  refine (fails_any _ 1 true _ (row_c Rk_3.out (i := 0) rfl) rfl).mono ?_
  rintro e w5 ⟨rfl, rfl⟩
  go_wp2_with fail
  refine (none_any _ 1 _ (row_c Rk_3.out (i := 0) rfl) (heap_lt Rk_3.out)).mono ?_
  rintro e w6 ⟨rfl, hb⟩
  have L6 := ls L3 hb
  have Rx_6 := co Rx_3 hb
  have Rr_6 := co Rr_3 hb
  have Rsl_6 := co Rsl_3 hb
  have Rk_6 := co Rk_3 hb
  clear hb 
  obtain ⟨fr0, zr0, fr1, zr1, fr2, zr2, xr⟩ := ly3 Rr_6.out
  go_wp2
  refine bodyPost_ret (v := .tuple #[.agg #[.bool false, .slice none 0 0, .int .i64 0], .int .i64 1]) (by simp [results, Tryd.results29, go_sem, fr0, fr1, fr2]) rfl ?_
  
  exact ⟨rfl, (fin3 L6.out Rr_6.out noint3 Gr).1⟩

set_option maxHeartbeats 4000000 in
set_option maxRecDepth 100000 in
theorem scale_wh (A : Option Addr) (c : Nat) (s : Bool) (xs : List Nat) (x n : Int) (w : World) (h : Dg w A c xs) (hl : xs.length ≤ 9223372036854775807) (hq : dyR s xs x = false) (hn : 100000 < n):
    Calls Tryd.prog 29 #[.agg #[.bool s, .slice A xs.length c, .int .i64 x], .int .i64 n] w fun e w' => e = .returned (.tuple #[.agg #[.bool false, .slice none 0 0, .int .i64 0], .int .i64 1]) ∧ Below w.heap.size w w' := by
  have lx := Lib.hid hl
  have HQ := Lib.hid hq
  have d1 : decide (n < -100000) = false := by simp; omega
  have d2 : decide (100000 < n) = true := by simp; omega
  have L0 := Lib.hid ((live_start w).add h)
  clear h hl hq hn
  go_enter Tryd.func29, Tryd.ntmps29
  go_wp2_with fail
  obtain ⟨v1, hW, hb, Rx_1, Rr_1, Rsl_1⟩ := new3 w (.cells #[.bool s, .slice A xs.length c, .int .i64 x] 26) (.cells #[.bool false, .slice none 0 0, .int .i64 0] 26) (.cells #[.bool s, .slice A xs.length c, .int .i64 x] 26)
  rw [← hW]
  have L1 := ls L0 hb
  have Gx := gl0 L0.out
  have Gr := gl1 L0.out
  have Nxr : w.heap.size < w.heap.size + 1 := by omega
  have Gsl := gl2 L0.out
  have Nxsl : w.heap.size < w.heap.size + 1 + 1 := by omega
  have Nrsl : w.heap.size + 1 < w.heap.size + 1 + 1 := by omega
  clear hW hb
  refine (begin_1 Rsl_1.out (L1.out.get (A := A) (c := c) (xs := xs) (by simp)) HQ.out lx.out (k := 1) rfl).mono ?_
  rintro e w2 ⟨rfl, hb⟩
  have L2 := ls L1 hb
  have Rx_2 := co Rx_1 hb
  have Rr_2 := co Rr_1 hb
  have Rsl_2 := co Rsl_1 hb
  clear hb 
  go_wp2_with fail
  obtain ⟨w3, hW, hb, Rk_3⟩ := new1 w2 (.cells #[.int .i64 1] 66)
  rw [← hW]
  have L3 := ls L2 hb
  have Rx_3 := co Rx_2 hb
  have Rr_3 := co Rr_2 hb
  have Rsl_3 := co Rsl_2 hb
  have Gk := gl0 L2.out
  have Nxk := nl0 Rx_2.out
  have Nrk := nl0 Rr_2.out
  have Nslk := nl0 Rsl_2.out
  clear hW hb
  refine (tell_no _ 1 4 true _ (row_c Rk_3.out (i := 0) rfl) (.inr rfl)).mono ?_
  rintro e w4 ⟨rfl, rfl⟩
  go_wp2_with fail
  refine (fails_any _ 1 true _ (row_c Rk_3.out (i := 0) rfl) rfl).mono ?_
  rintro e w5 ⟨rfl, rfl⟩
  go_wp2_with fail
  refine (none_any _ 1 _ (row_c Rk_3.out (i := 0) rfl) (heap_lt Rk_3.out)).mono ?_
  rintro e w6 ⟨rfl, hb⟩
  have L6 := ls L3 hb
  have Rx_6 := co Rx_3 hb
  have Rr_6 := co Rr_3 hb
  have Rsl_6 := co Rsl_3 hb
  have Rk_6 := co Rk_3 hb
  clear hb 
  obtain ⟨fr0, zr0, fr1, zr1, fr2, zr2, xr⟩ := ly3 Rr_6.out
  go_wp2
  refine bodyPost_ret (v := .tuple #[.agg #[.bool false, .slice none 0 0, .int .i64 0], .int .i64 1]) (by simp [results, Tryd.results29, go_sem, fr0, fr1, fr2]) rfl ?_
  
  exact ⟨rfl, (fin3 L6.out Rr_6.out noint3 Gr).1⟩

set_option maxHeartbeats 4000000 in
set_option maxRecDepth 100000 in
theorem scale_wm (A : Option Addr) (c : Nat) (s : Bool) (xs : List Nat) (x n : Int) (w : World) (h : Dg w A c xs) (hl : xs.length ≤ 9223372036854775807) (hq : dyR s xs x = false) (hn : -100000 ≤ n ∧ n ≤ 100000):
    Calls Tryd.prog 29 #[.agg #[.bool s, .slice A xs.length c, .int .i64 x], .int .i64 n] w fun e w' => e = .returned (.tuple #[.agg #[.bool false, .slice none 0 0, .int .i64 0], .int .i64 1]) ∧ Below w.heap.size w w' := by
  have lx := Lib.hid hl
  have HQ := Lib.hid hq
  have d1 : decide (n < -100000) = false := by simp; omega
  have d2 : decide (100000 < n) = false := by simp; omega
  have L0 := Lib.hid ((live_start w).add h)
  clear h hl hq hn
  go_enter Tryd.func29, Tryd.ntmps29
  go_wp2_with fail
  obtain ⟨v1, hW, hb, Rx_1, Rr_1, Rsl_1⟩ := new3 w (.cells #[.bool s, .slice A xs.length c, .int .i64 x] 26) (.cells #[.bool false, .slice none 0 0, .int .i64 0] 26) (.cells #[.bool s, .slice A xs.length c, .int .i64 x] 26)
  rw [← hW]
  have L1 := ls L0 hb
  have Gx := gl0 L0.out
  have Gr := gl1 L0.out
  have Nxr : w.heap.size < w.heap.size + 1 := by omega
  have Gsl := gl2 L0.out
  have Nxsl : w.heap.size < w.heap.size + 1 + 1 := by omega
  have Nrsl : w.heap.size + 1 < w.heap.size + 1 + 1 := by omega
  clear hW hb
  refine (begin_1 Rsl_1.out (L1.out.get (A := A) (c := c) (xs := xs) (by simp)) HQ.out lx.out (k := 1) rfl).mono ?_
  rintro e w2 ⟨rfl, hb⟩
  have L2 := ls L1 hb
  have Rx_2 := co Rx_1 hb
  have Rr_2 := co Rr_1 hb
  have Rsl_2 := co Rsl_1 hb
  clear hb 
  go_wp2_with fail
  obtain ⟨w3, hW, hb, Rk_3⟩ := new1 w2 (.cells #[.int .i64 1] 66)
  rw [← hW]
  have L3 := ls L2 hb
  have Rx_3 := co Rx_2 hb
  have Rr_3 := co Rr_2 hb
  have Rsl_3 := co Rsl_2 hb
  have Gk := gl0 L2.out
  have Nxk := nl0 Rx_2.out
  have Nrk := nl0 Rr_2.out
  have Nslk := nl0 Rsl_2.out
  clear hW hb
  refine (tell_no _ 1 4 false _ (row_c Rk_3.out (i := 0) rfl) (.inr rfl)).mono ?_
  rintro e w4 ⟨rfl, rfl⟩
  go_wp2_with fail
  refine (fails_any _ 1 true _ (row_c Rk_3.out (i := 0) rfl) rfl).mono ?_
  rintro e w5 ⟨rfl, rfl⟩
  go_wp2_with fail
  refine (none_any _ 1 _ (row_c Rk_3.out (i := 0) rfl) (heap_lt Rk_3.out)).mono ?_
  rintro e w6 ⟨rfl, hb⟩
  have L6 := ls L3 hb
  have Rx_6 := co Rx_3 hb
  have Rr_6 := co Rr_3 hb
  have Rsl_6 := co Rsl_3 hb
  have Rk_6 := co Rk_3 hb
  clear hb 
  obtain ⟨fr0, zr0, fr1, zr1, fr2, zr2, xr⟩ := ly3 Rr_6.out
  go_wp2
  refine bodyPost_ret (v := .tuple #[.agg #[.bool false, .slice none 0 0, .int .i64 0], .int .i64 1]) (by simp [results, Tryd.results29, go_sem, fr0, fr1, fr2]) rfl ?_
  
  exact ⟨rfl, (fin3 L6.out Rr_6.out noint3 Gr).1⟩

set_option maxHeartbeats 4000000 in
set_option maxRecDepth 100000 in
theorem scale_ol (A : Option Addr) (c : Nat) (s : Bool) (xs : List Nat) (x n : Int) (w : World) (h : Dg w A c xs) (hl : xs.length ≤ 9223372036854775807) (hq : dyR s xs x = true) (hn : n < -100000):
    Calls Tryd.prog 29 #[.agg #[.bool s, .slice A xs.length c, .int .i64 x], .int .i64 n] w fun e w' => e = .returned (.tuple #[.agg #[.bool false, .slice none 0 0, .int .i64 0], .int .i64 4]) ∧ Below w.heap.size w w' := by
  have lx := Lib.hid hl
  have HQ := Lib.hid hq
  have d1 : decide (n < -100000) = true := by simp; omega
  have d2 : decide (100000 < n) = false := by simp; omega
  have L0 := Lib.hid ((live_start w).add h)
  clear h hl hq hn
  go_enter Tryd.func29, Tryd.ntmps29
  go_wp2_with fail
  obtain ⟨v1, hW, hb, Rx_1, Rr_1, Rsl_1⟩ := new3 w (.cells #[.bool s, .slice A xs.length c, .int .i64 x] 26) (.cells #[.bool false, .slice none 0 0, .int .i64 0] 26) (.cells #[.bool s, .slice A xs.length c, .int .i64 x] 26)
  rw [← hW]
  have L1 := ls L0 hb
  have Gx := gl0 L0.out
  have Gr := gl1 L0.out
  have Nxr : w.heap.size < w.heap.size + 1 := by omega
  have Gsl := gl2 L0.out
  have Nxsl : w.heap.size < w.heap.size + 1 + 1 := by omega
  have Nrsl : w.heap.size + 1 < w.heap.size + 1 + 1 := by omega
  clear hW hb
  refine (begin_1 Rsl_1.out (L1.out.get (A := A) (c := c) (xs := xs) (by simp)) HQ.out lx.out (k := 0) rfl).mono ?_
  rintro e w2 ⟨rfl, hb⟩
  have L2 := ls L1 hb
  have Rx_2 := co Rx_1 hb
  have Rr_2 := co Rr_1 hb
  have Rsl_2 := co Rsl_1 hb
  clear hb 
  go_wp2_with fail
  obtain ⟨w3, hW, hb, Rk_3⟩ := new1 w2 (.cells #[.int .i64 0] 66)
  rw [← hW]
  have L3 := ls L2 hb
  have Rx_3 := co Rx_2 hb
  have Rr_3 := co Rr_2 hb
  have Rsl_3 := co Rsl_2 hb
  have Gk := gl0 L2.out
  have Nxk := nl0 Rx_2.out
  have Nrk := nl0 Rr_2.out
  have Nslk := nl0 Rsl_2.out
  clear hW hb
  refine (tell_yes _ 4 _ (row_c Rk_3.out (i := 0) rfl) (frozen_of_row _ _ 0 _ _ Rk_3.out)).mono ?_
  rintro e w4 ⟨rfl, rfl⟩
  obtain ⟨w5, hW⟩ : ∃ W : World, W = (w3.setCell ⟨w2.heap.size, 0, none⟩ (.int .i64 4)) := ⟨_, rfl⟩
  rw [← hW]
  have hO : Only (w2.heap.size) w3 w5 := by rw [hW]; exact ((Only.refl (w2.heap.size) w3).setCell 0 _)
  have L5 := Lib.hid (live_only L3.out hO Rk_3.out noint_re Gk)
  have Rx_5 := Lib.hid ((hO.block _ (by omega)).trans Rx_3.out)
  have Rr_5 := Lib.hid ((hO.block _ (by omega)).trans Rr_3.out)
  have Rsl_5 := Lib.hid ((hO.block _ (by omega)).trans Rsl_3.out)
  have Rk_5 := Lib.hid (show w5.heap[w2.heap.size]? = some (.cells #[.int .i64 4] 66 (0, 0)) by rw [hW]; exact (heap_setCell_same _ _ 0 _ _ _ Rk_3.out))
  clear hW hO
  go_wp2_with fail
  refine (fails_any _ 4 true _ (row_c Rk_5.out (i := 0) rfl) rfl).mono ?_
  rintro e w6 ⟨rfl, rfl⟩
  go_wp2_with fail
  refine (none_any _ 4 _ (row_c Rk_5.out (i := 0) rfl) (heap_lt Rk_5.out)).mono ?_
  rintro e w7 ⟨rfl, hb⟩
  have L7 := ls L5 hb
  have Rx_7 := co Rx_5 hb
  have Rr_7 := co Rr_5 hb
  have Rsl_7 := co Rsl_5 hb
  have Rk_7 := co Rk_5 hb
  clear hb 
  obtain ⟨fr0, zr0, fr1, zr1, fr2, zr2, xr⟩ := ly3 Rr_7.out
  go_wp2
  refine bodyPost_ret (v := .tuple #[.agg #[.bool false, .slice none 0 0, .int .i64 0], .int .i64 4]) (by simp [results, Tryd.results29, go_sem, fr0, fr1, fr2]) rfl ?_
  
  exact ⟨rfl, (fin3 L7.out Rr_7.out noint3 Gr).1⟩

set_option maxHeartbeats 4000000 in
set_option maxRecDepth 100000 in
theorem scale_oh (A : Option Addr) (c : Nat) (s : Bool) (xs : List Nat) (x n : Int) (w : World) (h : Dg w A c xs) (hl : xs.length ≤ 9223372036854775807) (hq : dyR s xs x = true) (hn : 100000 < n):
    Calls Tryd.prog 29 #[.agg #[.bool s, .slice A xs.length c, .int .i64 x], .int .i64 n] w fun e w' => e = .returned (.tuple #[.agg #[.bool false, .slice none 0 0, .int .i64 0], .int .i64 4]) ∧ Below w.heap.size w w' := by
  have lx := Lib.hid hl
  have HQ := Lib.hid hq
  have d1 : decide (n < -100000) = false := by simp; omega
  have d2 : decide (100000 < n) = true := by simp; omega
  have L0 := Lib.hid ((live_start w).add h)
  clear h hl hq hn
  go_enter Tryd.func29, Tryd.ntmps29
  go_wp2_with fail
  obtain ⟨v1, hW, hb, Rx_1, Rr_1, Rsl_1⟩ := new3 w (.cells #[.bool s, .slice A xs.length c, .int .i64 x] 26) (.cells #[.bool false, .slice none 0 0, .int .i64 0] 26) (.cells #[.bool s, .slice A xs.length c, .int .i64 x] 26)
  rw [← hW]
  have L1 := ls L0 hb
  have Gx := gl0 L0.out
  have Gr := gl1 L0.out
  have Nxr : w.heap.size < w.heap.size + 1 := by omega
  have Gsl := gl2 L0.out
  have Nxsl : w.heap.size < w.heap.size + 1 + 1 := by omega
  have Nrsl : w.heap.size + 1 < w.heap.size + 1 + 1 := by omega
  clear hW hb
  refine (begin_1 Rsl_1.out (L1.out.get (A := A) (c := c) (xs := xs) (by simp)) HQ.out lx.out (k := 0) rfl).mono ?_
  rintro e w2 ⟨rfl, hb⟩
  have L2 := ls L1 hb
  have Rx_2 := co Rx_1 hb
  have Rr_2 := co Rr_1 hb
  have Rsl_2 := co Rsl_1 hb
  clear hb 
  go_wp2_with fail
  obtain ⟨w3, hW, hb, Rk_3⟩ := new1 w2 (.cells #[.int .i64 0] 66)
  rw [← hW]
  have L3 := ls L2 hb
  have Rx_3 := co Rx_2 hb
  have Rr_3 := co Rr_2 hb
  have Rsl_3 := co Rsl_2 hb
  have Gk := gl0 L2.out
  have Nxk := nl0 Rx_2.out
  have Nrk := nl0 Rr_2.out
  have Nslk := nl0 Rsl_2.out
  clear hW hb
  refine (tell_yes _ 4 _ (row_c Rk_3.out (i := 0) rfl) (frozen_of_row _ _ 0 _ _ Rk_3.out)).mono ?_
  rintro e w4 ⟨rfl, rfl⟩
  obtain ⟨w5, hW⟩ : ∃ W : World, W = (w3.setCell ⟨w2.heap.size, 0, none⟩ (.int .i64 4)) := ⟨_, rfl⟩
  rw [← hW]
  have hO : Only (w2.heap.size) w3 w5 := by rw [hW]; exact ((Only.refl (w2.heap.size) w3).setCell 0 _)
  have L5 := Lib.hid (live_only L3.out hO Rk_3.out noint_re Gk)
  have Rx_5 := Lib.hid ((hO.block _ (by omega)).trans Rx_3.out)
  have Rr_5 := Lib.hid ((hO.block _ (by omega)).trans Rr_3.out)
  have Rsl_5 := Lib.hid ((hO.block _ (by omega)).trans Rsl_3.out)
  have Rk_5 := Lib.hid (show w5.heap[w2.heap.size]? = some (.cells #[.int .i64 4] 66 (0, 0)) by rw [hW]; exact (heap_setCell_same _ _ 0 _ _ _ Rk_3.out))
  clear hW hO
  go_wp2_with fail
  refine (fails_any _ 4 true _ (row_c Rk_5.out (i := 0) rfl) rfl).mono ?_
  rintro e w6 ⟨rfl, rfl⟩
  go_wp2_with fail
  refine (none_any _ 4 _ (row_c Rk_5.out (i := 0) rfl) (heap_lt Rk_5.out)).mono ?_
  rintro e w7 ⟨rfl, hb⟩
  have L7 := ls L5 hb
  have Rx_7 := co Rx_5 hb
  have Rr_7 := co Rr_5 hb
  have Rsl_7 := co Rsl_5 hb
  have Rk_7 := co Rk_5 hb
  clear hb 
  obtain ⟨fr0, zr0, fr1, zr1, fr2, zr2, xr⟩ := ly3 Rr_7.out
  go_wp2
  refine bodyPost_ret (v := .tuple #[.agg #[.bool false, .slice none 0 0, .int .i64 0], .int .i64 4]) (by simp [results, Tryd.results29, go_sem, fr0, fr1, fr2]) rfl ?_
  
  exact ⟨rfl, (fin3 L7.out Rr_7.out noint3 Gr).1⟩
end Go.Proofs.YtaciohjobenipaaDoor
end

section
/-
  The reference's Same, of numbers that are not the same too; the law's own 'same'.
-/
namespace Go.Proofs.YtaciohjobenipaaDoor
open Go.RowKit
set_option linter.unusedSimpArgs false
set_option linter.unusedVariables false
theorem first_diff : ∀ (xs ys : List Nat), xs.length = ys.length → xs ≠ ys → ∃ i, i < xs.length ∧ xs[i]?.getD 0 ≠ ys[i]?.getD 0 ∧ ∀ j, j < i → xs[j]?.getD 0 = ys[j]?.getD 0 := by
  intro xs
  induction xs with
  | nil => intro ys h hne; cases ys; exact absurd rfl hne; simp at h
  | cons x r ih =>
    intro ys h hne
    rcases ys with _ | ⟨y, s⟩
    · simp at h
    · by_cases hx : x = y
      · subst hx
        obtain ⟨i, h1, h2, h3⟩ := ih s (by simpa using h) (fun e => hne (by rw [e]))
        refine ⟨i + 1, by simp; omega, by simpa using h2, fun j hj => ?_⟩
        rcases j with _ | j
        · rfl
        · simpa using h3 j (by omega)
      · exact ⟨0, by simp, by simpa using hx, fun j hj => by omega⟩
set_option maxHeartbeats 2000000 in
set_option maxRecDepth 100000 in
theorem Same_diff (A B : Option Addr) (c d : Nat) (s : Bool) (xs ys : List Nat) (w : World) (h : Dg w A c xs) (h' : Dg w B d ys) (hl : xs.length ≤ 16777216) (hlen : xs.length = ys.length) (hne : xs ≠ ys) :
    Calls Tryd.prog 85 #[.agg #[.bool s, .slice A xs.length c], .agg #[.bool s, .slice B xs.length d]] w fun e w' => e = .returned (.bool false) ∧ Below w.heap.size w w' := by
  obtain ⟨i, hi, hd, hs⟩ := first_diff xs ys hlen hne
  have hne : ((xs.length : Int) != (xs.length : Int)) = false := by simp
  have hns : (s != s) = false := by simp
  have H1 := Lib.hid (h.below (below2 w (.cells #[.bool s, .slice A xs.length c] 24) (.cells #[.bool s, .slice B xs.length d] 24)))
  have H2 := Lib.hid (h'.below (below2 w (.cells #[.bool s, .slice A xs.length c] 24) (.cells #[.bool s, .slice B xs.length d] 24)))
  have HS := Lib.hid hs
  have HD := Lib.hid hd
  have HLEN := Lib.hid hlen
  have hc1 := h.1
  have hc2 : xs.length ≤ d := by have := h'.1; omega
  clear h h' hs hd hlen
  go_enter Tryd.func85, Tryd.ntmps85
  go_wp2
  go_loopw [5] (fun v wr => (∃ k : Nat, k ≤ i ∧ v = .int .i64 k) ∧ ∃ m, wr = ((w.alloc (.cells #[.bool s, .slice A xs.length c] 24)).alloc (.cells #[.bool s, .slice B xs.length d] 24)).drewN m) (fun v _ => xs.length - (intOf v).toNat)
  case atStart => exact ⟨⟨0, Nat.zero_le _, rfl⟩, 0, rfl⟩
  case round =>
    obtain ⟨⟨k, hk, rfl⟩, m, rfl⟩ := hrel
    have hkl : k < xs.length := by omega
    obtain ⟨b, off, hA, hb, hcx⟩ := H1.out.2.2 (by omega)
    obtain ⟨b', off', hB, hb', hcy⟩ := H2.out.2.2 (by have := HLEN.out; omega)
    have hx := hcx k hkl
    have hy := hcy k (by have := HLEN.out; omega)
    by_cases hlt : k < i
    · rw [← HS.out k hlt] at hy
      generalize xs[k]?.getD 0 = x at *
      have t1 : ((x : Int) != (x : Int)) = false := by simp
      clear hcx hcy H1 H2
      subst hA hB
      go_wp2_with fail
      go_quiet (fail)
      go_wp2_with fail
      go_roundw
      case rel => exact ⟨⟨k + 1, by omega, by go_num⟩, _, rfl⟩
      case measure => simp [intOf]; omega
    · obtain rfl : k = i := by omega
      have hdd := HD.out
      generalize xs[k]?.getD 0 = x at *
      generalize ys[k]?.getD 0 = y at *
      have t1 : ((x : Int) != (y : Int)) = true := by simp; omega
      clear hcx hcy H1 H2 hdd
      subst hA hB
      go_wp2_with fail
      go_quiet (fail)
      go_wp2
      go_ret
      exact ⟨rfl, below_drewN (below_drewN (below2 _ _ _) _) _⟩
set_option maxHeartbeats 2000000 in
set_option maxRecDepth 100000 in
theorem Same_len (A B : Option Addr) (c d n k : Nat) (s r : Bool) (w : World) (hne : s ≠ r ∨ n ≠ k) :
    Calls Tryd.prog 85 #[.agg #[.bool s, .slice A n c], .agg #[.bool r, .slice B k d]] w fun e w' => e = .returned (.bool false) ∧ Below w.heap.size w w' := by
  by_cases hs : s = r
  · have hn : ((n : Int) != (k : Int)) = true := by
      have : n ≠ k := hne.resolve_left (fun h => h hs)
      simp; omega
    have hns : (s != s) = false := by simp
    subst hs
    clear hne
    go_enter Tryd.func85, Tryd.ntmps85
    go_wp2
    go_ret
    exact ⟨rfl, below2 _ _ _⟩
  · clear hne
    cases s <;> cases r
    · exact absurd rfl hs
    · clear hs
      go_enter Tryd.func85, Tryd.ntmps85
      go_wp2
      go_ret
      exact ⟨rfl, below2 _ _ _⟩
    · clear hs
      go_enter Tryd.func85, Tryd.ntmps85
      go_wp2
      go_ret
      exact ⟨rfl, below2 _ _ _⟩
    · exact absurd rfl hs
theorem Same_q {A B : Option Addr} {c d : Nat} {m n : Int} {q : Bool} {w : World} (h : Dg w A c (digs m.natAbs)) (h' : Dg w B d (digs n.natAbs)) (hl : (digs m.natAbs).length ≤ 16777216) (hq : decide (m = n) = q) :
    Calls Tryd.prog 85 #[.agg #[.bool (decide (m < 0)), .slice A (digs m.natAbs).length c], .agg #[.bool (decide (n < 0)), .slice B (digs n.natAbs).length d]] w fun e w' => e = .returned (.bool q) ∧ Below w.heap.size w w' := by
  by_cases hmn : m = n
  · subst hmn
    rw [decide_eq_true rfl] at hq; subst hq
    exact Same_any A B c d _ _ w h h' hl
  · rw [decide_eq_false hmn] at hq; subst hq
    by_cases hs : decide (m < 0) = decide (n < 0)
    · by_cases hlen : (digs m.natAbs).length = (digs n.natAbs).length
      · have := Same_diff A B c d (decide (m < 0)) _ _ w h h' hl hlen (fun e => hmn (by have := digs_inj e; rw [decide_eq_decide] at hs; omega))
        rw [← hs, ← hlen]; exact this
      · exact Same_len A B c d _ _ _ _ w (.inr hlen)
    · exact Same_len A B c d _ _ _ _ w (.inl hs)
set_option maxHeartbeats 2000000 in
set_option maxRecDepth 100000 in
theorem dSame_q {A B : Option Addr} {c d : Nat} {m n x y : Int} {q : Bool} {w : World} (h : Dg w A c (digs m.natAbs)) (h' : Dg w B d (digs n.natAbs)) (hl : (digs m.natAbs).length ≤ 10000) (hq : decide (m = n ∧ x = y) = q) :
    Calls Tryd.prog 42 #[.agg #[.bool (decide (m < 0)), .slice A (digs m.natAbs).length c, .int .i64 x], .agg #[.bool (decide (n < 0)), .slice B (digs n.natAbs).length d, .int .i64 y]] w fun e w' => e = .returned (.bool q) ∧ Below w.heap.size w w' := by
  by_cases hxy : x = y
  · subst hxy
    have HS := Lib.hid (fun W (h : Dg W A c (digs m.natAbs)) (h' : Dg W B d (digs n.natAbs)) => Same_q (q := q) h h' (by omega) (by rw [← hq]; simp))
    have H := Lib.hid h
    have H' := Lib.hid h'
    have t0 : (x == x) = true := by simp
    clear h h' hq
    go_enter Tryd.func42, Tryd.ntmps42
    go_wp2_with fail
    refine (HS.out _ (H.out.below (below2 _ _ _)) (H'.out.below (below2 _ _ _))).mono ?_
    rintro e w1 ⟨rfl, hb⟩
    have HB := Lib.hid ((below2 w _ _).trans (hb.mono (by simp; omega)))
    clear hb
    go_wp2
    go_ret
    exact ⟨rfl, HB.out⟩
  · have t0 : (x == y) = false := by simpa using hxy
    rw [decide_eq_false (fun e => hxy e.2)] at hq
    subst hq
    clear hxy h h'
    go_enter Tryd.func42, Tryd.ntmps42
    go_wp2
    go_ret
    exact ⟨rfl, below2 _ _ _⟩
set_option maxHeartbeats 2000000 in
set_option maxRecDepth 100000 in
theorem dsame_d {A B : Option Addr} {c d : Nat} {m n x y : Int} {q : Bool} {w : World} (h : Dg w A c (digs m.natAbs)) (h' : Dg w B d (digs n.natAbs)) (hl : (digs m.natAbs).length ≤ 10000) (hq : decide (m = n ∧ x = y) = q) :
    Calls Tryd.prog 10 #[.agg #[.bool (decide (m < 0)), .slice A (digs m.natAbs).length c, .int .i64 x], .agg #[.bool (decide (n < 0)), .slice B (digs n.natAbs).length d, .int .i64 y]] w fun e w' => e = .returned (.bool q) ∧ Below w.heap.size w w' := by
  have HS := Lib.hid (fun W (h : Dg W A c (digs m.natAbs)) (h' : Dg W B d (digs n.natAbs)) => dSame_q (q := q) (x := x) (y := y) h h' hl hq)
  have H := Lib.hid h
  have H' := Lib.hid h'
  clear h h' hq hl
  go_enter Tryd.func10, Tryd.ntmps10
  go_wp2_with fail
  refine (HS.out _ (H.out.below (below2 _ _ _)) (H'.out.below (below2 _ _ _))).mono ?_
  rintro e w1 ⟨rfl, hb⟩
  have HB := Lib.hid ((below2 w _ _).trans (hb.mono (by simp; omega)))
  clear hb
  go_wp2
  go_ret
  exact ⟨rfl, HB.out⟩
end Go.Proofs.YtaciohjobenipaaDoor
end

section
/-
  dyad.Make, From, Half.
-/
namespace Go.Proofs.YtaciohjobenipaaDoor
open Go.RowKit
set_option linter.unusedSimpArgs false
set_option linter.unusedVariables false
set_option maxHeartbeats 4000000 in
set_option maxRecDepth 100000 in
theorem make_yes (A : Option Addr) (c : Nat) (s : Bool) (xs : List Nat) (y M E : Int) (w : World) (h : Dg w A c xs) (hl : xs.length ≤ 400000) (hT : T32 w) (hy0 : -100000 ≤ y) (hy1 : y ≤ 100000) (hM : nm (sg s (val xs)) = M) (hE : nx (sg s (val xs)) y = E) (hq : inR M E = true):
    Calls Tryd.prog 8 #[.agg #[.bool s, .slice A xs.length c], .int .i64 y] w fun e w' => Yb M E true w e w' := by
  have l1 := digs_len_le h.2.1
  have MK := Lib.hid (fun W (hW : Dg W A c xs) => zmake_any A c s xs W hW (by omega))
  obtain ⟨z, hz⟩ : ∃ z, sg s (val xs) = z := ⟨_, rfl⟩
  have hzl : (digs z.natAbs).length ≤ 400000 := by rw [← hz, sg_abs]; omega
  rw [hz] at MK hM hE
  have hml := nm_len z
  rw [hM] at hml
  have LZ := Lib.hid hzl
  have LM := Lib.hid (show (digs M.natAbs).length ≤ 400000 by omega)
  have HM := Lib.hid (show nm (sg (decide (z < 0)) z.natAbs) = M by rw [sg_abs2]; exact hM)
  have HE := Lib.hid (show nx (sg (decide (z < 0)) z.natAbs) y = E by rw [sg_abs2]; exact hE)
  have HQ := Lib.hid hq
  have d1 : decide (y < -100000) = false := by simp; omega
  have d2 : decide (100000 < y) = false := by simp; omega
  have HT := Lib.hid hT
  clear hT
  have L0 := Lib.hid ((live_start w).add h)
  clear h hz hzl hM hE hml hq l1
  go_enter Tryd.func8, Tryd.ntmps8
  go_wp2_with fail
  obtain ⟨v1, hW, hb, Rm_1, Rr_1⟩ := new2 w (.cells #[.bool s, .slice A xs.length c] 24) (.cells #[.bool false, .slice none 0 0, .int .i64 0] 26)
  rw [← hW]
  have L1 := ls L0 hb
  have Gm := gl0 L0.out
  have Gr := gl1 L0.out
  have Nmr : w.heap.size < w.heap.size + 1 := by omega
  clear hW hb
  refine (MK.out _ (L1.out.get (A := A) (c := c) (xs := xs) (by simp))).mono ?_
  rintro e w2 ⟨A2, c2, rfl, hd, hb⟩
  have L2 := la L1 hb hd
  have Rm_2 := co Rm_1 hb
  have Rr_2 := co Rr_1 hb
  clear hb hd
  obtain ⟨fm0, zm0, fm1, zm1, xm⟩ := ly2 Rm_2.out
  go_wp2_with fail
  refine (odd_any A2 c2 (decide (z < 0)) z.natAbs y M E _ (L2.out.get (A := A2) (c := c2) (xs := digs z.natAbs) (by simp)) (Nat.le_trans LZ.out (by omega)) (t32_live HT.out L2.out) ⟨by omega, by omega⟩ HM.out HE.out).mono ?_
  rintro e w3 ⟨A3, c3, rfl, hd, hb⟩
  have L3 := la L2 hb hd
  clear fm0 zm0 fm1 zm1 xm
  have Rm_3 := co Rm_2 hb
  have Rr_3 := co Rr_2 hb
  clear hb hd
  go_wp2_with fail
  obtain ⟨w4, hW, hb, Rx_4⟩ := new1 w3 (.cells #[.bool (decide (M < 0)), .slice A3 (digs M.natAbs).length c3, .int .i64 E] 26)
  rw [← hW]
  have L4 := ls L3 hb
  have Rm_4 := co Rm_3 hb
  have Rr_4 := co Rr_3 hb
  have Gx := gl0 L3.out
  have Nmx := nl0 Rm_3.out
  have Nrx := nl0 Rr_3.out
  clear hW hb
  refine (inRange_any A3 c3 (decide (M < 0)) M E _ (L4.out.get (A := A3) (c := c3) (xs := digs M.natAbs) (by simp)) true HQ.out (Nat.le_trans LM.out (by omega))).mono ?_
  rintro e w5 ⟨rfl, hb⟩
  have L5 := ls L4 hb
  have Rm_5 := co Rm_4 hb
  have Rr_5 := co Rr_4 hb
  have Rx_5 := co Rx_4 hb
  clear hb 
  obtain ⟨fx0, zx0, fx1, zx1, fx2, zx2, xx⟩ := ly3 Rx_5.out
  obtain ⟨fr0, zr0, fr1, zr1, fr2, zr2, xr⟩ := ly3 Rr_5.out
  go_wp2
  refine bodyPost_ret (v := .tuple #[.agg #[.bool (decide (M < 0)), .slice A3 (digs M.natAbs).length c3, .int .i64 E], .bool true]) (by simp [results, Tryd.results8, go_sem, fx0, fx1, fx2, fr0, fr1, fr2]) rfl ?_
  
  refine ⟨A3, c3, rfl, ?_, ?_⟩
  · exact (fin3 L5.out Rr_5.out noint3 Gr).get (A := A3) (c := c3) (xs := digs M.natAbs) (by simp)
  · exact (fin3 L5.out Rr_5.out noint3 Gr).1

set_option maxHeartbeats 4000000 in
set_option maxRecDepth 100000 in
theorem from_yes (n M E : Int) (w : World) (hT : T32 w) (h0 : -9223372036854775808 ≤ n) (h1 : n ≤ 9223372036854775807) (hM : nm n = M) (hE : nx n 0 = E):
    Calls Tryd.prog 11 #[.int .i64 n] w fun e w' => Yr M E w e w' := by
  have FR := Lib.hid (fun W => zfrom_any n W h0 h1)
  have LN := Lib.hid (show (digs n.natAbs).length ≤ 2 from digs_small (by omega))
  have HM := Lib.hid (show nm (sg (decide (n < 0)) n.natAbs) = M by rw [sg_abs2]; exact hM)
  have HE := Lib.hid (show nx (sg (decide (n < 0)) n.natAbs) 0 = E by rw [sg_abs2]; exact hE)
  have HT := Lib.hid hT
  clear hT
  have L0 := Lib.hid (live_start w)
  clear h0 h1 hM hE
  go_enter Tryd.func11, Tryd.ntmps11
  go_wp2_with fail
  obtain ⟨v1, hW, hb, Rr_1⟩ := new1 w (.cells #[.bool false, .slice none 0 0, .int .i64 0] 26)
  rw [← hW]
  have L1 := ls L0 hb
  have Gr := gl0 L0.out
  clear hW hb
  refine (FR.out _).mono ?_
  rintro e w2 ⟨A2, c2, rfl, hd, hb⟩
  have L2 := la L1 hb hd
  have Rr_2 := co Rr_1 hb
  clear hb hd
  go_wp2_with fail
  refine (odd_any A2 c2 (decide (n < 0)) n.natAbs 0 M E _ (L2.out.get (A := A2) (c := c2) (xs := digs n.natAbs) (by simp)) (Nat.le_trans LN.out (by omega)) (t32_live HT.out L2.out) ⟨by omega, by omega⟩ HM.out HE.out).mono ?_
  rintro e w3 ⟨A3, c3, rfl, hd, hb⟩
  have L3 := la L2 hb hd
  have Rr_3 := co Rr_2 hb
  clear hb hd
  obtain ⟨fr0, zr0, fr1, zr1, fr2, zr2, xr⟩ := ly3 Rr_3.out
  go_wp2
  refine bodyPost_ret (v := .agg #[.bool (decide (M < 0)), .slice A3 (digs M.natAbs).length c3, .int .i64 E]) (by simp [results, Tryd.results11, go_sem, fr0, fr1, fr2]) rfl ?_
  
  refine ⟨A3, c3, rfl, ?_, ?_⟩
  · exact (fin3 L3.out Rr_3.out noint3 Gr).get (A := A3) (c := c3) (xs := digs M.natAbs) (by simp)
  · exact (fin3 L3.out Rr_3.out noint3 Gr).1
end Go.Proofs.YtaciohjobenipaaDoor
end

section
/-
  A region that draws its order, whose last store may come ahead of what stands behind it ('x, ok := f(g(a), b)': the store into x's new box, and ok's part of the answer).
-/
namespace Go.Proofs.YtaciohjobenipaaDoor
open Go.RowKit
section
variable {P : Program} {ops : Array Oper} {Q : Exit → Act → World → Prop} {md : Region.Mode}
theorem wpAny_phaseP {Pb Ob : Nat → Bool} (I : Array Bool → Act → World → Prop) (hb : backB md ops = true) (hne : ∃ j, j < ops.size ∧ Ob j = false)
    (hP : ∀ i, i < ops.size → Ob i = false → ∀ k, k < ops.size → Pb k = true → waitsT md ops ops.size i k = true)
    (step : ∀ l a w i, I l a w → l.size = ops.size → i < ops.size → Ob i = true → i ∈ Region.ready md ops l → wpOp P ops Q i (fun a' w' => I (l.setIfInBounds i true) a' w') a w)
    (fin : ∀ l a w, I l a w → l.size = ops.size → (∀ i, i < ops.size → Pb i = true → l.getD i false = true) → (∀ i, i < ops.size → Ob i = false → l.getD i false = false) → ∀ fuel, still l ≤ fuel → wpAny P md ops Q fuel l a w) :
    ∀ (fuel : Nat) (l : Array Bool) (a : Act) (w : World), still l ≤ fuel → l.size = ops.size → Down md ops l → (∀ k, k < ops.size → Ob k = false → l.getD k false = false) → I l a w → wpAny P md ops Q fuel l a w := by
  intro fuel
  induction fuel with
  | zero =>
    intro l a w hf hl hd hno hI
    exfalso
    obtain ⟨j, hj, hjp⟩ := hne
    have h1 := hno j hj hjp
    have h2 : l.getD j true = false := by
      have : j < l.size := by omega
      simp [this] at h1 ⊢; exact h1
    have := still_set h2
    omega
  | succ fuel ih =>
    intro l a w hf hl hd hno hI
    by_cases hall : ∀ k, k < ops.size → Pb k = true → l.getD k false = true
    · exact fin l a w hI hl hall hno _ hf
    · refine ⟨fun hr => ?_, fun i hi => ?_⟩
      · exfalso
        obtain ⟨j, hj, hjp⟩ := hne
        have := all_of_back hb hl hr j hj
        rw [hno j hj hjp] at this; cases this
      · have hiu := (mem_ready.1 hi).1
        have hin : i < ops.size := by
          rcases Nat.lt_or_ge i l.size with h' | h'
          · omega
          · simp [Array.getElem?_eq_none h'] at hiu
        have hip : Ob i = true := by
          cases hp : Ob i
          · exfalso; apply hall
            intro k hk hkp
            exact hd.ready hi (hP i hin hp k hk hkp)
          · rfl
        have hst := still_set hiu
        refine wpOp_mono (fun a' w' h' => ih _ a' w' (by omega) (by simpa using hl) (hd.set hi) (fun k hk hkp => ?_) h') (step l a w i hI hl hin hip hi)
        have : i ≠ k := by rintro rfl; rw [hip] at hkp; cases hkp
        rw [getD_set_ne false this]; exact hno k hk hkp
/-- Two in either order, and one behind them. -/
theorem wpAny_late {L0 : Array Bool} {x y z : Nat} {a : Act} {w : World} {fuel : Nat} (hf : 3 ≤ fuel) (r1 : Region.ready md ops L0 = [x, y]) (r2 : Region.ready md ops (L0.setIfInBounds x true) = [y]) (r3 : Region.ready md ops (L0.setIfInBounds y true) = [x])
    (r4 : Region.ready md ops ((L0.setIfInBounds x true).setIfInBounds y true) = [z]) (r5 : Region.ready md ops ((L0.setIfInBounds y true).setIfInBounds x true) = [z])
    (r6 : Region.ready md ops (((L0.setIfInBounds x true).setIfInBounds y true).setIfInBounds z true) = []) (r7 : Region.ready md ops (((L0.setIfInBounds y true).setIfInBounds x true).setIfInBounds z true) = [])
    (h1 : wpOps P ops Q [x, y, z] a w) (h2 : wpOps P ops Q [y, x, z] a w) : wpAny P md ops Q fuel L0 a w := by
  obtain ⟨f, rfl⟩ : ∃ f, fuel = f + 1 + 1 + 1 := ⟨fuel - 3, by omega⟩
  have hend : ∀ l a w, Region.ready md ops l = [] → Q .normal a w → wpAny P md ops Q f l a w := by
    intro l a w hr hq
    cases f with
    | zero => exact ⟨hr, hq⟩
    | succ f => exact ⟨fun _ => hq, fun i hi => by rw [hr] at hi; cases hi⟩
  simp only [wpOps_cons] at h1 h2
  refine ⟨fun hr => (by rw [r1] at hr; cases hr), fun i hi => ?_⟩
  rw [r1] at hi
  simp only [List.mem_cons, List.not_mem_nil, or_false] at hi
  rcases hi with rfl | rfl
  · refine wpOp_mono (fun a w h => ⟨fun hr => (by rw [r2] at hr; cases hr), fun j hj => ?_⟩) h1
    rw [r2] at hj; simp only [List.mem_cons, List.not_mem_nil, or_false] at hj; subst hj
    refine wpOp_mono (fun a w h => ⟨fun hr => (by rw [r4] at hr; cases hr), fun j hj => ?_⟩) h
    rw [r4] at hj; simp only [List.mem_cons, List.not_mem_nil, or_false] at hj; subst hj
    exact wpOp_mono (fun a w h => hend _ _ _ r6 h) h
  · refine wpOp_mono (fun a w h => ⟨fun hr => (by rw [r3] at hr; cases hr), fun j hj => ?_⟩) h2
    rw [r3] at hj; simp only [List.mem_cons, List.not_mem_nil, or_false] at hj; subst hj
    refine wpOp_mono (fun a w h => ⟨fun hr => (by rw [r5] at hr; cases hr), fun j hj => ?_⟩) h
    rw [r5] at hj; simp only [List.mem_cons, List.not_mem_nil, or_false] at hj; subst hj
    exact wpOp_mono (fun a w h => hend _ _ _ r7 h) h
theorem wpAny_two {L0 : Array Bool} {y z : Nat} {a : Act} {w : World} {fuel : Nat} (hf : 2 ≤ fuel) (r1 : Region.ready md ops L0 = [y]) (r2 : Region.ready md ops (L0.setIfInBounds y true) = [z]) (r3 : Region.ready md ops ((L0.setIfInBounds y true).setIfInBounds z true) = [])
    (h1 : wpOps P ops Q [y, z] a w) : wpAny P md ops Q fuel L0 a w := by
  obtain ⟨f, rfl⟩ : ∃ f, fuel = f + 1 + 1 := ⟨fuel - 2, by omega⟩
  have hend : ∀ l a w, Region.ready md ops l = [] → Q .normal a w → wpAny P md ops Q f l a w := by
    intro l a w hr hq
    cases f with
    | zero => exact ⟨hr, hq⟩
    | succ f => exact ⟨fun _ => hq, fun i hi => by rw [hr] at hi; cases hi⟩
  simp only [wpOps_cons] at h1
  refine ⟨fun hr => (by rw [r1] at hr; cases hr), fun i hi => ?_⟩
  rw [r1] at hi; simp only [List.mem_cons, List.not_mem_nil, or_false] at hi; subst hi
  refine wpOp_mono (fun a w h => ⟨fun hr => (by rw [r2] at hr; cases hr), fun j hj => ?_⟩) h1
  rw [r2] at hj; simp only [List.mem_cons, List.not_mem_nil, or_false] at hj; subst hj
  exact wpOp_mono (fun a w h => hend _ _ _ r3 h) h
/-- Loads, calls and new boxes in whatever order; behind them a store, and the last one; and one (x) that may come ahead of the store or behind it. D: the operands' slots; S: their numbers, but x. -/
theorem wp_operands_late {id : Nat} {a0 : Act} {W : World} (hm : P.follows .mixedOrders = true) (x y z : Nat) (S : List Nat) (D : List Tmp) (R : Nat → Value → World → Prop)
    (hn : ((List.range ops.size).all fun i => S.contains i || i == x || i == y || i == z) = true) (hb : backB .any ops = true) (hx : x < ops.size ∧ y < ops.size ∧ z < ops.size ∧ x ≠ y ∧ x ≠ z ∧ y ≠ z)
    (hS : (S.all fun i => decide (i < ops.size) && decide (i ≠ x) && decide (i ≠ y) && decide (i ≠ z)) = true)
    (ht : ([y, z].all fun i => S.all fun k => waitsT .any ops ops.size i k) = true) (hw : ((x :: S).all fun i => (List.range ops.size).all fun k => !waitsB .any ops i k || S.contains k) = true)
    (hnd : ((x :: S).map (D.getD · 0)).Nodup) (hin : ((x :: S).all fun i => decide (D.getD i 0 < a0.tmps.size)) = true)
    (r1 : Region.ready .any ops ((List.range ops.size).map (S.contains ·)).toArray = [x, y]) (r2 : Region.ready .any ops (((List.range ops.size).map (S.contains ·)).toArray.setIfInBounds x true) = [y]) (r3 : Region.ready .any ops (((List.range ops.size).map (S.contains ·)).toArray.setIfInBounds y true) = [x])
    (r4 : Region.ready .any ops ((((List.range ops.size).map (S.contains ·)).toArray.setIfInBounds x true).setIfInBounds y true) = [z]) (r5 : Region.ready .any ops ((((List.range ops.size).map (S.contains ·)).toArray.setIfInBounds y true).setIfInBounds x true) = [z])
    (r6 : Region.ready .any ops (((((List.range ops.size).map (S.contains ·)).toArray.setIfInBounds x true).setIfInBounds y true).setIfInBounds z true) = []) (r7 : Region.ready .any ops (((((List.range ops.size).map (S.contains ·)).toArray.setIfInBounds y true).setIfInBounds x true).setIfInBounds z true) = [])
    (st : ∀ i u w w', i ∈ x :: S → R i u w → Below w.heap.size w w' → R i u w')
    (step : ∀ i a w K, i ∈ x :: S → Fr6 ((x :: S).map (D.getD · 0)) a0 a → Below W.heap.size W w → (∀ k, waitsB .any ops i k = true → R k (a.tmps.getD (D.getD k 0) undef) w) →
      (∀ u w', R i u w' → Below w.heap.size w w' → K (a.put (some (D.getD i 0)) u) w') → wpOp P ops Q i K a w)
    (fin : ∀ a w, Fr6 ((x :: S).map (D.getD · 0)) a0 a → Below W.heap.size W w → (∀ i, i ∈ S → R i (a.tmps.getD (D.getD i 0) undef) w) → (wpOps P ops Q [x, y, z] a w ∧ wpOps P ops Q [y, x, z] a w) ∧ (R x (a.tmps.getD (D.getD x 0) undef) w → wpOps P ops Q [y, z] a w)) :
    (Code.region id ops true).wp P Q a0 W := by
  have memS : ∀ i, i ∈ S → i < ops.size := fun i hi => by
    rw [List.all_eq_true] at hS
    have := hS i hi
    simp only [Bool.and_eq_true, decide_eq_true_eq] at this
    exact this.1.1.1
  have notS : ∀ i, i ∈ S → i ≠ x ∧ i ≠ y ∧ i ≠ z := fun i hi => by
    rw [List.all_eq_true] at hS
    have := hS i hi
    simp only [Bool.and_eq_true, decide_eq_true_eq] at this
    exact ⟨this.1.1.2, this.1.2, this.2⟩
  have memO : ∀ i, i ∈ x :: S → i < ops.size := fun i hi => by
    rcases List.mem_cons.1 hi with rfl | h
    · exact hx.1
    · exact memS i h
  have hlt : ∀ i, i ∈ x :: S → D.getD i 0 < a0.tmps.size := fun i hi => by
    rw [List.all_eq_true] at hin
    simpa using hin i hi
  have hne : ∀ i j, i ∈ x :: S → j ∈ x :: S → i ≠ j → D.getD i 0 ≠ D.getD j 0 := fun i j hi hj h e => by
    obtain ⟨p, hp, hpe⟩ := List.getElem_of_mem hi
    obtain ⟨q, hq, hqe⟩ := List.getElem_of_mem hj
    have h1 : ((x :: S).map (D.getD · 0))[p]'(by simpa using hp) = ((x :: S).map (D.getD · 0))[q]'(by simpa using hq) := by
      rw [List.getElem_map, List.getElem_map, hpe, hqe]; exact e
    have h2 := (List.getElem_inj hnd).1 h1
    subst h2
    exact h (hpe.symm.trans hqe)
  have hmem : ∀ i, i ∈ x :: S → D.getD i 0 ∈ (x :: S).map (D.getD · 0) := fun i hi => List.mem_map.2 ⟨i, hi, rfl⟩
  have hrest : ∀ i, i < ops.size → (x :: S).contains i = false → i = y ∨ i = z := by
    intro i hi hc
    rw [List.all_eq_true] at hn
    have h1 := hn i (List.mem_range.2 hi)
    have h2 : i ∉ x :: S := fun hm => by rw [List.contains_iff_mem.2 hm] at hc; cases hc
    simp only [List.mem_cons, not_or] at h2
    have h3 : S.contains i = false := by
      cases h4 : S.contains i
      · rfl
      · exact absurd (List.contains_iff_mem.1 h4) h2.2
    rw [h3] at h1
    have h5 : (i == x) = false := by simpa using h2.1
    rw [h5] at h1
    simpa using h1
  have yO : (x :: S).contains y = false := by
    cases hc : (x :: S).contains y
    · rfl
    · rcases List.mem_cons.1 (List.contains_iff_mem.1 hc) with h | h
      · exact absurd h.symm hx.2.2.2.1
      · exact absurd rfl (notS y h).2.1
  have zO : (x :: S).contains z = false := by
    cases hc : (x :: S).contains z
    · rfl
    · rcases List.mem_cons.1 (List.contains_iff_mem.1 hc) with h | h
      · exact absurd h.symm hx.2.2.2.2.1
      · exact absurd rfl (notS z h).2.2
  have zz : ∀ j, (Array.replicate ops.size false).getD j false = false := by intro j; simp [Array.getElem?_replicate]; split <;> rfl
  refine wp_region_any hm (wpAny_phaseP (Pb := fun i => S.contains i) (Ob := fun i => (x :: S).contains i) (fun l a w => Fr6 ((x :: S).map (D.getD · 0)) a0 a ∧ Below W.heap.size W w ∧ (∀ i, i ∈ x :: S → l.getD i false = true → R i (a.tmps.getD (D.getD i 0) undef) w)) hb
    ⟨y, hx.2.1, yO⟩ ?_ ?_ ?_ _ _ _ _ ?_ (by simp) ?_ ?_ ?_)
  · intro i hi hc k hk hkp
    rw [List.all_eq_true] at ht
    have hi3 : i ∈ [y, z] := by rcases hrest i hi hc with rfl | rfl <;> simp
    have := ht i hi3
    rw [List.all_eq_true] at this
    exact this k (List.contains_iff_mem.1 hkp)
  · rintro l a w i ⟨hF, hbw, hR⟩ hl hi hip hir
    have hiS := List.contains_iff_mem.1 hip
    have ps : a.tmps.size = a0.tmps.size := hF.2.1
    refine step i a w _ hiS hF hbw (fun k hk => hR k ?_ (waits_spec hk hir)) (fun u w' hu hbb => ⟨hF.put (hmem i hiS) _, hbw.trans (hbb.mono hbw.size), fun j hj hjl => ?_⟩)
    · rw [List.all_eq_true] at hw
      have h1 := hw i hiS
      rw [List.all_eq_true] at h1
      have hks : k < ops.size := by
        rcases Nat.lt_or_ge k ops.size with h | h
        · exact h
        · exfalso
          have := waits_spec hk hir
          have h2 : l.size ≤ k := by omega
          simp [Array.getElem?_eq_none h2] at this
      have h2 := h1 k (List.mem_range.2 hks)
      rw [hk] at h2
      exact List.mem_cons_of_mem _ (List.contains_iff_mem.1 (by simpa using h2))
    · by_cases hij : i = j
      · subst hij; rw [put_same _ _ _ (by rw [ps]; exact hlt i hiS)]; exact hu
      · rw [getD_set_ne false hij] at hjl
        rw [put_other _ _ _ _ (hne i j hiS hj hij)]
        exact st j _ _ _ hj (hR j hj hjl) hbb
  · rintro l a w ⟨hF, hbw, hR⟩ hl hall hno fuel hfu
    have hf := fin a w hF hbw (fun i hi => hR i (List.mem_cons_of_mem _ hi) (hall i (memS i hi) (List.contains_iff_mem.2 hi)))
    have gt : ∀ (m : Array Bool) (j : Nat), j < m.size → m.getD j false = false → m.getD j true = false := by
      intro m j hj h
      simp [hj] at h ⊢; exact h
    have ly := gt l y (by have := hx.2.1; omega) (hno y hx.2.1 yO)
    have lz := gt l z (by have := hx.2.2.1; omega) (hno z hx.2.2.1 zO)
    have hval : ∀ i, i < ops.size → i ≠ x → l.getD i false = S.contains i := by
      intro i hi hix
      cases hc : S.contains i
      · refine hno i hi ?_
        cases hc2 : (x :: S).contains i
        · rfl
        · rcases List.mem_cons.1 (List.contains_iff_mem.1 hc2) with h | h
          · exact absurd h hix
          · rw [List.contains_iff_mem.2 h] at hc; cases hc
      · exact hall i hi hc
    have xS : S.contains x = false := by
      cases hc : S.contains x
      · rfl
      · exact absurd rfl (notS x (List.contains_iff_mem.1 hc)).1
    have two : 2 ≤ still l := by
      have s1 := still_set ly
      have e2 : (l.setIfInBounds y true).getD z true = false := by rw [getD_set_ne true hx.2.2.2.2.2]; exact lz
      have s2 := still_set e2
      omega
    cases hlx : l.getD x false
    · have hlL : l = ((List.range ops.size).map (S.contains ·)).toArray := by
        apply Array.ext
        · simp [hl]
        · intro i h1 h2
          have : l.getD i false = S.contains i := by
            by_cases hix : i = x
            · rw [hix, hlx, xS]
            · exact hval i (by omega) hix
          simp only [Array.getD_eq_getD_getElem?, Array.getElem?_eq_getElem h1, Option.getD_some] at this
          rw [this]; simp
      have lx := gt l x (by have := hx.1; omega) hlx
      have three : 3 ≤ still l := by
        have s1 := still_set lx
        have e1 : (l.setIfInBounds x true).getD y true = false := by rw [getD_set_ne true hx.2.2.2.1]; exact ly
        have s2 := still_set e1
        have e2 : ((l.setIfInBounds x true).setIfInBounds y true).getD z true = false := by rw [getD_set_ne true hx.2.2.2.2.2, getD_set_ne true hx.2.2.2.2.1]; exact lz
        have s3 := still_set e2
        omega
      rw [hlL]
      exact wpAny_late (by omega) r1 r2 r3 r4 r5 r6 r7 hf.1.1 hf.1.2
    · have hlL : l = (((List.range ops.size).map (S.contains ·)).toArray.setIfInBounds x true) := by
        apply Array.ext
        · simp [hl]
        · intro i h1 h2
          by_cases hix : i = x
          · subst hix
            simp only [Array.getD_eq_getD_getElem?, Array.getElem?_eq_getElem h1, Option.getD_some] at hlx
            rw [hlx]; simp
          · have := hval i (by omega) hix
            simp only [Array.getD_eq_getD_getElem?, Array.getElem?_eq_getElem h1, Option.getD_some] at this
            rw [this, Array.getElem_setIfInBounds]
            rw [if_neg (fun e => hix e.symm)]; simp
            exact (by simp; omega)
      rw [hlL]
      exact wpAny_two (by omega) r2 r4 r6 (hf.2 (hR x (List.mem_cons_self ..) hlx))
  · unfold still; exact Nat.le_trans (List.count_le_length) (by simp)
  · exact fun j hj => absurd hj (by rw [zz]; simp)
  · exact fun k _ _ => zz k
  · exact ⟨⟨rfl, rfl, fun _ _ => rfl⟩, ⟨rfl, rfl, rfl, Nat.le_refl _, fun _ _ => rfl⟩, fun i _ hi => absurd hi (by rw [zz]; simp)⟩
end
end Go.Proofs.YtaciohjobenipaaDoor
end

section
/-
  The law's own tame, prec.
-/
namespace Go.Proofs.YtaciohjobenipaaDoor
open Go.RowKit
set_option linter.unusedSimpArgs false
set_option linter.unusedVariables false
theorem ok32_take6 {xs ts : List Nat} (h : ok32 xs) (ht : xs.take 6 = ts) : ok32 ts := by
  subst ht; exact fun x hx => h x (List.mem_of_mem_take hx)

def tameE (e : Int) : Int := (if e < 0 then -(e + 1) else e) % 601 - 300
theorem tameE_bd (e : Int) : -300 ≤ tameE e ∧ tameE e ≤ 300 := by unfold tameE; omega
/-- What a tame number is like. -/
def Tm (M E : Int) : Prop := Nf M E ∧ bl M ≤ 192 ∧ (M ≠ 0 → -300 ≤ E ∧ E + bl M ≤ 492)
theorem tm_of {z y : Int} (hz : z.natAbs < 2 ^ 192) (h0 : -300 ≤ y) (h1 : y ≤ 300) : Tm (nm z) (nx z y) := by
  have hb : bl z ≤ 192 := blen_le hz
  have he := bl_nm z y
  refine ⟨nf_n z y, ?_, fun hm => ?_⟩
  · by_cases h : z = 0
    · subst h; rw [nm_zero, bl_zero]; omega
    · unfold nx at he
      rw [if_neg h, if_neg h] at he
      omega
  · by_cases h : z = 0
    · subst h; exact absurd nm_zero hm
    · rw [if_neg h] at he
      have : nx z y = y + tz z.natAbs := by unfold nx; rw [if_neg h]
      omega
theorem Tm.inR {M E : Int} (h : Tm M E) : inR M E = true := by
  unfold Proofs.YtaciohjobenipaaDoor.inR
  rw [decide_eq_true_eq]
  by_cases hm : M = 0
  · exact .inl hm
  · have := h.2.2 hm
    have := h.2.1
    have : 0 < bl M := by
      unfold bl
      have := (blen_bd M.natAbs (by omega)).2.2
      omega
    right; omega
theorem Tm.rt {M E : Int} (h : Tm M E) : Rt M E := by
  refine ⟨h.1, ?_⟩
  by_cases hm : M = 0
  · have := nf_zero h.1 hm; omega
  · have := h.2.2 hm
    omega
theorem Tm.len {M E : Int} (h : Tm M E) : (digs M.natAbs).length ≤ 7 := by
  have := len_bl M
  have := h.2.1
  omega
theorem take6 {xs : List Nat} (h : ok32 xs) (s : Bool) : (sg s (val (xs.take 6))).natAbs < 2 ^ 192 := by
  rw [sg_abs]
  have h1 := val_lt (xs := xs.take 6) (fun x hx => h x (List.mem_of_mem_take hx))
  refine Nat.lt_of_lt_of_le h1 ?_
  rw [show (4294967296 : Nat) = 2 ^ 32 from rfl, ← Nat.pow_mul]
  exact Nat.pow_le_pow_right (by omega) (by rw [List.length_take]; omega)

end Go.Proofs.YtaciohjobenipaaDoor
end

section
/-
  The law's own prec, examples.
-/
namespace Go.Proofs.YtaciohjobenipaaDoor
open Go.RowKit
set_option linter.unusedSimpArgs false
set_option linter.unusedVariables false
theorem tame_tm {s : Bool} {xs : List Nat} {y : Int} (hk : ok32 xs) : Tm (nm (sg s (val (xs.take 6)))) (nx (sg s (val (xs.take 6))) (tameE y)) :=
  tm_of (take6 hk s) (tameE_bd y).1 (tameE_bd y).2
def precV (p : Int) : Int := 2 + (if p < 0 then -(p + 1) else p) % 199
theorem precV_bd (p : Int) : 2 ≤ precV p ∧ precV p ≤ 200 := by unfold precV; omega
theorem dg_lit {w : World} {g k : Nat} {i : Int} {T : TypeId} (h : w.heap[g]? = some (.cells #[.int .u32 i] T (0, 0))) (hi : i = (k : Int)) (hk : k < 4294967296) : Dg w (some ⟨g, 0, none⟩) 1 [k] :=
  ⟨Nat.le_refl _, by intro x hx; simp at hx; omega, fun _ => ⟨g, 0, rfl, heap_lt h, fun j hj => by
    have : j = 0 := by simp at hj; omega
    subst this hi
    exact row_c h rfl⟩⟩
theorem nm_of {z M E : Int} {y : Int} (h : Nf M E) (hv : M * 2 ^ (E - y).toNat = z) (hle : y ≤ E) : nm z = M ∧ nx z y = E :=
  nf_of h (by rw [dv_down hle, hv])
theorem rd13 : RdOf (dv 13 0) 3 false 3 2 ∧ RdOf (dv 13 0) 3 true 7 1 := by
  refine ⟨⟨.inr (by decide), .inr ⟨1, 6, ?_, ?_, ?_⟩⟩, ⟨.inr (by decide), .inr ⟨1, 7, ?_, ?_, ?_⟩⟩⟩
  · unfold Sz dv; decide +kernel
  · unfold Rn dv; decide +kernel
  · unfold dv; decide +kernel
  · unfold Sz dv; decide +kernel
  · unfold Rn dv; decide +kernel
  · unfold dv; decide +kernel
theorem same5 {A B : Option Addr} {c d : Nat} {m x : Int} {w : World} (h : Dg w A c (digs m.natAbs)) (h' : Dg w B d [5]) (hm : m = 5) (hx : x = -4) :
    Calls Tryd.prog 10 #[.agg #[.bool (decide (m < 0)), .slice A (digs m.natAbs).length c, .int .i64 x], .agg #[.bool false, .slice B 1 d, .int .i64 (-4)]] w fun e w' => e = .returned (.bool true) ∧ Below w.heap.size w w' := by
  have e : digs (5 : Int).natAbs = [5] := digs_one (by omega) (by omega)
  have := dsame_d (n := 5) (y := -4) (q := true) (B := B) (d := d) h (by rw [e]; exact h') (by rw [hm, e]; simp) (x := x) (by simp [hm, hx])
  rw [e] at this
  exact this

theorem third : RdOf (dv 1 0 / dv 3 0) 4 false 5 (-4) := by
  have e1 : dv 1 0 / dv 3 0 = (1 : Rat) / 3 := by unfold dv; decide +kernel
  rw [e1]
  refine ⟨.inr (by decide), .inr ⟨-5, 10, ?_, ?_, ?_⟩⟩
  · unfold Sz; decide +kernel
  · unfold Rn dv; decide +kernel
  · unfold dv; decide +kernel

set_option maxHeartbeats 8000000 in
set_option maxRecDepth 100000 in
theorem dexamples_any  (w : World) (hT : T32 w):
    Calls Tryd.prog 6 #[] w fun e w' => e = .returned (.bool true) ∧ Below w.heap.size w w' := by
  obtain ⟨ma, hma⟩ : ∃ m : Int, m = 13 := ⟨_, rfl⟩
  obtain ⟨xa, hxa⟩ : ∃ m : Int, m = 0 := ⟨_, rfl⟩
  have Na := Lib.hid (show nm 13 = ma ∧ nx 13 0 = xa by rw [hma, hxa]; exact nm_of (.inr (by decide)) (by decide) (by decide))
  have Ta := Lib.hid (show Rt ma xa by rw [hma, hxa]; exact ⟨.inr (by decide), by decide, by decide⟩)
  have Ia := Lib.hid (show inR ma xa = true by rw [hma, hxa]; decide +kernel)
  have Da := Lib.hid (inr_len Ia.out)
  obtain ⟨mb, hmb⟩ : ∃ m : Int, m = 3 := ⟨_, rfl⟩
  obtain ⟨xb, hxb⟩ : ∃ m : Int, m = 2 := ⟨_, rfl⟩
  have Nb := Lib.hid (show nm 12 = mb ∧ nx 12 0 = xb by rw [hmb, hxb]; exact nm_of (.inr (by decide)) (by decide) (by decide))
  have Tb := Lib.hid (show Rt mb xb by rw [hmb, hxb]; exact ⟨.inr (by decide), by decide, by decide⟩)
  have Ib := Lib.hid (show inR mb xb = true by rw [hmb, hxb]; decide +kernel)
  have Db := Lib.hid (inr_len Ib.out)
  obtain ⟨mc, hmc⟩ : ∃ m : Int, m = 7 := ⟨_, rfl⟩
  obtain ⟨xc, hxc⟩ : ∃ m : Int, m = 1 := ⟨_, rfl⟩
  have Nc := Lib.hid (show nm 14 = mc ∧ nx 14 0 = xc by rw [hmc, hxc]; exact nm_of (.inr (by decide)) (by decide) (by decide))
  have Tc := Lib.hid (show Rt mc xc by rw [hmc, hxc]; exact ⟨.inr (by decide), by decide, by decide⟩)
  have Ic := Lib.hid (show inR mc xc = true by rw [hmc, hxc]; decide +kernel)
  have Dc := Lib.hid (inr_len Ic.out)
  obtain ⟨md, hmd⟩ : ∃ m : Int, m = 1 := ⟨_, rfl⟩
  obtain ⟨xd, hxd⟩ : ∃ m : Int, m = 0 := ⟨_, rfl⟩
  have Nd := Lib.hid (show nm 1 = md ∧ nx 1 0 = xd by rw [hmd, hxd]; exact nm_of (.inr (by decide)) (by decide) (by decide))
  have Td := Lib.hid (show Rt md xd by rw [hmd, hxd]; exact ⟨.inr (by decide), by decide, by decide⟩)
  have Id := Lib.hid (show inR md xd = true by rw [hmd, hxd]; decide +kernel)
  have Dd := Lib.hid (inr_len Id.out)
  obtain ⟨me, hme⟩ : ∃ m : Int, m = 3 := ⟨_, rfl⟩
  obtain ⟨xe, hxe⟩ : ∃ m : Int, m = 0 := ⟨_, rfl⟩
  have Ne := Lib.hid (show nm 3 = me ∧ nx 3 0 = xe by rw [hme, hxe]; exact nm_of (.inr (by decide)) (by decide) (by decide))
  have Te := Lib.hid (show Rt me xe by rw [hme, hxe]; exact ⟨.inr (by decide), by decide, by decide⟩)
  have Ie := Lib.hid (show inR me xe = true by rw [hme, hxe]; decide +kernel)
  have De := Lib.hid (inr_len Ie.out)
  have RA := Lib.hid (show RdOf (dv ma xa) 3 false mb xb by rw [hma, hxa, hmb, hxb]; exact rd13.1)
  have RB := Lib.hid (show RdOf (dv ma xa) 3 true mc xc by rw [hma, hxa, hmc, hxc]; exact rd13.2)
  obtain ⟨mf, hmf⟩ : ∃ m : Int, m = 5 := ⟨_, rfl⟩
  obtain ⟨xf, hxf⟩ : ∃ m : Int, m = -4 := ⟨_, rfl⟩
  have RC := Lib.hid (show RdOf (dv md xd / dv me xe) 4 false mf xf by rw [hmd, hxd, hme, hxe, hmf, hxf]; exact third)
  have IF := Lib.hid (show inR mf xf = true by rw [hmf, hxf]; decide +kernel)
  have DF := Lib.hid (inr_len IF.out)
  have e0 := Lib.hid (show me ≠ 0 by rw [hme]; decide)
  have SF := Lib.hid (fun (A B : Option Addr) (c d : Nat) W (h : Dg W A c (digs mf.natAbs)) (h' : Dg W B d [5]) => same5 h h' hmf hxf)
  have RR := Lib.hid (fun W => dright_any none 0 false [] 1 W (Dg.nil_ _ _) false rfl (by simp))
  have HT := Lib.hid hT
  clear hT
  have L0 := Lib.hid (live_start w)
  clear hma hxa hmb hxb hmc hxc hmd hxd hme hxe hmf hxf
  go_enter Tryd.func6, Tryd.ntmps6
  go_wp2_with fail
  refine (from_yes 13 ma xa _ (t32_live HT.out L0.out) (by omega) (by omega) Na.out.1 Na.out.2).mono ?_
  rintro e w1 ⟨A1, c1, rfl, hd, hb⟩
  have L1 := la L0 hb hd
  clear hb hd
  go_wp2_with fail
  refine (round_yes (m := ma) (x := xa) (M := mb) (E := xb) (L1.out.get (A := A1) (c := c1) (xs := digs ma.natAbs) (by simp)) Da.out Ta.out (t32_live HT.out L1.out) (p := 3) rfl (by omega) (by omega) RA.out Ib.out).mono ?_
  rintro e w2 ⟨A2, c2, rfl, hd, hb⟩
  have L2 := la L1 hb hd
  clear hb hd
  go_wp2_with fail
  obtain ⟨w3, hW, hb, Ra_3⟩ := new1 w2 (.cells #[.bool (decide (mb < 0)), .slice A2 (digs mb.natAbs).length c2, .int .i64 xb] 26)
  rw [← hW]
  have L3 := ls L2 hb
  have Ga := gl0 L2.out
  clear hW hb
  refine (from_yes 13 ma xa _ (t32_live HT.out L3.out) (by omega) (by omega) Na.out.1 Na.out.2).mono ?_
  rintro e w4 ⟨A4, c4, rfl, hd, hb⟩
  have L4 := la L3 hb hd
  have Ra_4 := co Ra_3 hb
  clear hb hd
  go_wp2_with fail
  refine (round_yes (m := ma) (x := xa) (M := mc) (E := xc) (L4.out.get (A := A4) (c := c4) (xs := digs ma.natAbs) (by simp)) Da.out Ta.out (t32_live HT.out L4.out) (p := 3) rfl (by omega) (by omega) RB.out Ic.out).mono ?_
  rintro e w5 ⟨A5, c5, rfl, hd, hb⟩
  have L5 := la L4 hb hd
  have Ra_5 := co Ra_4 hb
  clear hb hd
  go_wp2_with fail
  obtain ⟨w6, hW, hb, Rb_6⟩ := new1 w5 (.cells #[.bool (decide (mc < 0)), .slice A5 (digs mc.natAbs).length c5, .int .i64 xc] 26)
  rw [← hW]
  have L6 := ls L5 hb
  have Ra_6 := co Ra_5 hb
  have Gb := gl0 L5.out
  have Nab := nl0 Ra_5.out
  clear hW hb
  refine (from_yes 1 md xd _ (t32_live HT.out L6.out) (by omega) (by omega) Nd.out.1 Nd.out.2).mono ?_
  rintro e w7 ⟨A7, c7, rfl, hd, hb⟩
  have L7 := la L6 hb hd
  have Ra_7 := co Ra_6 hb
  have Rb_7 := co Rb_6 hb
  clear hb hd
  go_wp2_with fail
  refine (from_yes 3 me xe _ (t32_live HT.out L7.out) (by omega) (by omega) Ne.out.1 Ne.out.2).mono ?_
  rintro e w8 ⟨A8, c8, rfl, hd, hb⟩
  have L8 := la L7 hb hd
  have Ra_8 := co Ra_7 hb
  have Rb_8 := co Rb_7 hb
  clear hb hd
  go_wp2_with fail
  refine (div_yes (m := md) (x := xd) (n := me) (y := xe) (M := mf) (E := xf) (L8.out.get (A := A7) (c := c7) (xs := digs md.natAbs) (by simp)) (L8.out.get (A := A8) (c := c8) (xs := digs me.natAbs) (by simp)) Dd.out De.out Td.out Te.out (t32_live HT.out L8.out) (p := 4) rfl (by omega) (by omega) e0.out RC.out IF.out).mono ?_
  rintro e w9 ⟨A9, c9, rfl, hd, hb⟩
  have L9 := la L8 hb hd
  have Ra_9 := co Ra_8 hb
  have Rb_9 := co Rb_8 hb
  clear hb hd
  obtain ⟨fa0, za0, fa1, za1, fa2, za2, xa⟩ := ly3 Ra_9.out
  obtain ⟨fb0, zb0, fb1, zb1, fb2, zb2, xb⟩ := ly3 Rb_9.out
  go_wp2_with fail
  obtain ⟨w10, hW, hb, Rc_10⟩ := new1 w9 (.cells #[.bool (decide (mf < 0)), .slice A9 (digs mf.natAbs).length c9, .int .i64 xf] 26)
  rw [← hW]
  have L10 := ls L9 hb
  have Ra_10 := co Ra_9 hb
  have Rb_10 := co Rb_9 hb
  have Gc := gl0 L9.out
  have Nac := nl0 Ra_9.out
  have Nbc := nl0 Rb_9.out
  clear hW hb
  clear fa0 za0 fa1 za1 fa2 za2 xa fb0 zb0 fb1 zb1 fb2 zb2 xb
  obtain ⟨fa0, za0, fa1, za1, fa2, za2, xa⟩ := ly3 Ra_10.out
  have KD := Lib.hid (bd0 w10)
  have LD := ls L10 KD.out
  go_region_held3 (fun w' => ∀ b o, b < w10.heap.size → w'.cell? ⟨b, o, none⟩ = w10.cell? ⟨b, o, none⟩)
    (first | with_reducible exact (bcell KD.out).1 | with_reducible exact (bcell K12.out).1 | with_reducible exact (bcell K13.out).1)
    (first
      | (go_at_call 11; (with_reducible refine (from_yes 12 mb xb _ (t32_live HT.out LD.out) (by omega) (by omega) Nb.out.1 Nb.out.2).mono ?_); rintro e w12 ⟨A12, c12, rfl, hd, hb⟩; (have K12 := bt KD hb); (have L12 := la LD hb hd); clear hb hd)
      | (go_at_call 10; (with_reducible refine (dsame_d (m := mb) (n := mb) (x := xb) (y := xb) (q := true) (L12.out.get (A := A2) (c := c2) (xs := digs mb.natAbs) (by simp)) (L12.out.get (A := A12) (c := c12) (xs := digs mb.natAbs) (by simp)) Db.out (by simp)).mono ?_); rintro e w13 ⟨rfl, hb⟩; (have K13 := bt K12 hb); (have L13 := Lib.hid (L12.out.step hb)); clear hb ))
  rename_i hHeld
  clear hHeld
  clear fa0 za0 fa1 za1 fa2 za2 xa
  have Ra_13 := co Ra_10 K13.out
  have Rb_13 := co Rb_10 K13.out
  have Rc_13 := co Rc_10 K13.out
  clear KD LD
  obtain ⟨fb0, zb0, fb1, zb1, fb2, zb2, xb⟩ := ly3 Rb_13.out
  go_wp2_with fail
  clear fb0 zb0 fb1 zb1 fb2 zb2 xb
  obtain ⟨fb0, zb0, fb1, zb1, fb2, zb2, xb⟩ := ly3 Rb_13.out
  have KD := Lib.hid (bd0 w13)
  have LD := ls L13 KD.out
  go_region_held3 (fun w' => ∀ b o, b < w13.heap.size → w'.cell? ⟨b, o, none⟩ = w13.cell? ⟨b, o, none⟩)
    (first | with_reducible exact (bcell KD.out).1 | with_reducible exact (bcell K15.out).1 | with_reducible exact (bcell K16.out).1)
    (first
      | (go_at_call 11; (with_reducible refine (from_yes 14 mc xc _ (t32_live HT.out LD.out) (by omega) (by omega) Nc.out.1 Nc.out.2).mono ?_); rintro e w15 ⟨A15, c15, rfl, hd, hb⟩; (have K15 := bt KD hb); (have L15 := la LD hb hd); clear hb hd)
      | (go_at_call 10; (with_reducible refine (dsame_d (m := mc) (n := mc) (x := xc) (y := xc) (q := true) (L15.out.get (A := A5) (c := c5) (xs := digs mc.natAbs) (by simp)) (L15.out.get (A := A15) (c := c15) (xs := digs mc.natAbs) (by simp)) Dc.out (by simp)).mono ?_); rintro e w16 ⟨rfl, hb⟩; (have K16 := bt K15 hb); (have L16 := Lib.hid (L15.out.step hb)); clear hb ))
  rename_i hHeld
  clear hHeld
  clear fb0 zb0 fb1 zb1 fb2 zb2 xb
  have Ra_16 := co Ra_13 K16.out
  have Rb_16 := co Rb_13 K16.out
  have Rc_16 := co Rc_13 K16.out
  clear KD LD
  obtain ⟨fc0, zc0, fc1, zc1, fc2, zc2, xc⟩ := ly3 Rc_16.out
  go_wp2_with fail
  obtain ⟨w17, hW, hb, Rlit_17⟩ := new1 w16 (.cells #[.int .u32 5] 52)
  rw [← hW]
  have L17 := ls L16 hb
  have Ra_17 := co Ra_16 hb
  have Rb_17 := co Rb_16 hb
  have Rc_17 := co Rc_16 hb
  have Glit := gl0 L16.out
  have Nalit := nl0 Ra_16.out
  have Nblit := nl0 Rb_16.out
  have Nclit := nl0 Rc_16.out
  clear hW hb
  clear fc0 zc0 fc1 zc1 fc2 zc2 xc
  refine (SF.out A9 (some ⟨w16.heap.size, 0, none⟩) c9 1 _ (L17.out.get (A := A9) (c := c9) (xs := digs mf.natAbs) (by simp)) (dg_lit Rlit_17.out rfl (by omega))).mono ?_
  rintro e w18 ⟨rfl, hb⟩
  have L18 := ls L17 hb
  have Ra_18 := co Ra_17 hb
  have Rb_18 := co Rb_17 hb
  have Rc_18 := co Rc_17 hb
  have Rlit_18 := co Rlit_17 hb
  clear hb 
  go_wp2_with fail
  refine (RR.out _).mono ?_
  rintro e w19 ⟨rfl, hb⟩
  have L19 := ls L18 hb
  have Ra_19 := co Ra_18 hb
  have Rb_19 := co Rb_18 hb
  have Rc_19 := co Rc_18 hb
  have Rlit_19 := co Rlit_18 hb
  clear hb 
  go_wp2
  go_ret
  exact ⟨rfl, L19.out.1⟩
end Go.Proofs.YtaciohjobenipaaDoor
end

section
/-
  The law's cut; both sides with one answer: Add, Sub, Mul, Scale.
-/
namespace Go.Proofs.YtaciohjobenipaaDoor
open Go.RowKit
set_option linter.unusedSimpArgs false
set_option linter.unusedVariables false
theorem right_numU {neg : Bool} {ds : List Nat} (hk : ok32 ds) (h : rightB neg ds = true) : ∃ m : Int, digs m.natAbs = ds ∧ decide (m < 0) = neg := by
  refine ⟨sg neg (val ds), ?_⟩
  have ha : (sg neg (val ds)).natAbs = val ds := by unfold sg; cases neg <;> simp
  rw [ha]
  have hd : digs (val ds) = ds := digs_val hk fun x hx => by
    have e : ds.getLast? = ds[ds.length - 1]? := List.getLast?_eq_getElem?
    rw [e] at hx
    have hl : ds.length ≠ 0 := fun h0 => by rw [List.getElem?_eq_none (by omega)] at hx; cases hx
    unfold rightB at h
    rw [if_neg hl, decide_eq_true_eq, hx] at h
    exact h
  refine ⟨hd, ?_⟩
  by_cases hl : ds.length = 0
  · unfold rightB at h
    rw [if_pos hl] at h
    have : neg = false := by simpa using h
    subst this
    unfold sg; simp
  · have h0 : val ds ≠ 0 := fun e => by rw [e, digs_zero] at hd; rw [← hd] at hl; exact hl rfl
    unfold sg
    cases neg
    · simp
    · simp; omega
/-- A number that is right has a value. -/
theorem num_of {s : Bool} {xs : List Nat} {x : Int} (hk : ok32 xs) (h : dyR s xs x = true) : ∃ m : Int, digs m.natAbs = xs ∧ decide (m < 0) = s ∧ Rt m x := by
  have hr : rightB s xs = true := by
    unfold dyR at h
    by_cases h0 : xs.length = 0
    · rw [if_pos h0] at h
      unfold rightB
      rw [if_pos h0]
      simp at h
      simp [h.1]
    · rw [if_neg h0] at h
      simp only [Bool.and_eq_true] at h
      exact h.1.1.1
  obtain ⟨m, rfl, rfl⟩ := right_numU hk hr
  exact ⟨m, rfl, rfl, rt_ofU h⟩
theorem d00 : (digs (0 : Int).natAbs).length ≤ 10000 := by rw [show digs (0 : Int).natAbs = [] from digs_zero]; simp

set_option maxHeartbeats 4000000 in
set_option maxRecDepth 100000 in
theorem cut_ (A : Option Addr) (c : Nat) (s : Bool) (xs : List Nat) (v N K : Int) (w : World) (hmin : min (xs.length : Int) N = K) (k0 : 0 ≤ K) (k1 : K ≤ (c : Int)):
    Calls Tryd.prog 7 #[.agg #[.bool s, .slice A xs.length c, .int .i64 v], .int .i64 N] w fun e w' => e = .returned (.agg #[.bool s, .slice A K.toNat c, .int .i64 v]) ∧ Below w.heap.size w w' := by
  have L0 := Lib.hid (live_start w)
  go_enter Tryd.func7, Tryd.ntmps7
  go_upto_region 1 with fail
  obtain ⟨v1, hW, hb, Rx_1, Rr_1⟩ := new2 w (.cells #[.bool s, .slice A xs.length c, .int .i64 v] 26) (.cells #[.bool false, .slice none 0 0, .int .i64 0] 26)
  rw [← hW]
  have L1 := ls L0 hb
  have Gx := gl0 L0.out
  have Gr := gl1 L0.out
  have Nxr : w.heap.size < w.heap.size + 1 := by omega
  clear hW hb
  refine wp_operands (W := v1) rfl 17 [5, 6, 7, 8, 9, 10, 11, 12, 13, 14, 15, 16, 17, 18, 19, 20, 21] (fun i u ww => match i with | 0 => u = .pointer (some ⟨w.heap.size, 0, none⟩) | 1 => u = .pointer (some ⟨w.heap.size, 0, none⟩) | 2 => u = .bool s | 3 => u = .pointer (some ⟨w.heap.size, 0, none⟩) | 4 => u = .pointer (some ⟨w.heap.size, 1, none⟩) | 5 => u = .slice A xs.length c | 6 => u = .pointer (some ⟨w.heap.size, 0, none⟩) | 7 => u = .pointer (some ⟨w.heap.size, 1, none⟩) | 8 => u = .slice A xs.length c | 9 => u = .int .i64 xs.length | 10 => u = .int .i64 N | 11 => u = .int .i64 K | 12 => u = .slice A K.toNat c | 13 => u = .agg #[.bool s, .slice A K.toNat c] | 14 => u = .pointer (some ⟨w.heap.size, 2, none⟩) | 15 => u = .int .i64 v | 16 => u = .agg #[.bool s, .slice A K.toNat c, .int .i64 v] | _ => True) (fun i => decide (i ∈ ([] : List Nat)))
    (by decide) rfl (by kernel_rfl) (by kernel_rfl) (by decide) (by kernel_rfl) ?_ ?_ ?_ ?_
  · intro i u x y hi h hb
    have hi' : i = 0 ∨ i = 1 ∨ i = 2 ∨ i = 3 ∨ i = 4 ∨ i = 5 ∨ i = 6 ∨ i = 7 ∨ i = 8 ∨ i = 9 ∨ i = 10 ∨ i = 11 ∨ i = 12 ∨ i = 13 ∨ i = 14 ∨ i = 15 ∨ i = 16 := by omega
    rcases hi' with rfl | rfl | rfl | rfl | rfl | rfl | rfl | rfl | rfl | rfl | rfl | rfl | rfl | rfl | rfl | rfl | rfl
    · exact h
    · exact h
    · exact h
    · exact h
    · exact h
    · exact h
    · exact h
    · exact h
    · exact h
    · exact h
    · exact h
    · exact h
    · exact h
    · exact h
    · exact h
    · exact h
    · exact h
  · intro i u x hi; simp at hi
  · intro i a x KK hi hF hb hw hK
    have hi' : i = 0 ∨ i = 1 ∨ i = 2 ∨ i = 3 ∨ i = 4 ∨ i = 5 ∨ i = 6 ∨ i = 7 ∨ i = 8 ∨ i = 9 ∨ i = 10 ∨ i = 11 ∨ i = 12 ∨ i = 13 ∨ i = 14 ∨ i = 15 ∨ i = 16 := by omega
    rcases hi' with rfl | rfl | rfl | rfl | rfl | rfl | rfl | rfl | rfl | rfl | rfl | rfl | rfl | rfl | rfl | rfl | rfl
    · simp only [wpOp, List.getElem?_toArray, List.getElem?_cons_zero, Region.wanted, if_true]
      refine Or.inl ?_
      have e0 : a.eval (.tmp 2) = .pointer (some ⟨w.heap.size, 0, none⟩) := hF.2.2 2 (by decide)
      clear hw hF
      simp only [Oper.wp, execOp]
      rw [e0]
      go_simp
      exact hK _ x (by first | rfl | simp) (Below.refl _ _) (fun h => by simp at h)
    · simp only [wpOp, List.getElem?_toArray, List.getElem?_cons_succ, List.getElem?_cons_zero, Region.wanted, if_true]
      refine Or.inl ?_
      have e0 : a.eval (.tmp 5) = .pointer (some ⟨w.heap.size, 0, none⟩) := hw 0 (by kernel_rfl)
      clear hw hF
      simp only [Oper.wp, execOp]
      rw [e0]
      go_simp
      exact hK _ x (by first | rfl | simp) (Below.refl _ _) (fun h => by simp at h)
    · simp only [wpOp, List.getElem?_toArray, List.getElem?_cons_succ, List.getElem?_cons_zero, Region.wanted, if_true]
      refine Or.inl ?_
      have e0 : a.eval (.tmp 6) = .pointer (some ⟨w.heap.size, 0, none⟩) := hw 1 (by kernel_rfl)
      have f0 := row_cell Rx_1.out hb 0
      have f1 := row_cell Rx_1.out hb 1
      have f2 := row_cell Rx_1.out hb 2
      simp only [List.getElem?_toArray, List.getElem?_cons_succ, List.getElem?_cons_zero] at f0 f1 f2
      clear hw hF
      simp only [Oper.wp, execOp]
      rw [e0]
      go_simp
      exact hK _ x (by first | rfl | simp) (Below.refl _ _) (fun h => by simp at h)
    · simp only [wpOp, List.getElem?_toArray, List.getElem?_cons_succ, List.getElem?_cons_zero, Region.wanted, if_true]
      refine Or.inl ?_
      have e0 : a.eval (.tmp 2) = .pointer (some ⟨w.heap.size, 0, none⟩) := hF.2.2 2 (by decide)
      clear hw hF
      simp only [Oper.wp, execOp]
      rw [e0]
      go_simp
      exact hK _ x (by first | rfl | simp) (Below.refl _ _) (fun h => by simp at h)
    · simp only [wpOp, List.getElem?_toArray, List.getElem?_cons_succ, List.getElem?_cons_zero, Region.wanted, if_true]
      refine Or.inl ?_
      have e0 : a.eval (.tmp 8) = .pointer (some ⟨w.heap.size, 0, none⟩) := hw 3 (by kernel_rfl)
      clear hw hF
      simp only [Oper.wp, execOp]
      rw [e0]
      go_simp
      exact hK _ x (by first | rfl | simp) (Below.refl _ _) (fun h => by simp at h)
    · simp only [wpOp, List.getElem?_toArray, List.getElem?_cons_succ, List.getElem?_cons_zero, Region.wanted, if_true]
      refine Or.inl ?_
      have e0 : a.eval (.tmp 9) = .pointer (some ⟨w.heap.size, 1, none⟩) := hw 4 (by kernel_rfl)
      have f0 := row_cell Rx_1.out hb 0
      have f1 := row_cell Rx_1.out hb 1
      have f2 := row_cell Rx_1.out hb 2
      simp only [List.getElem?_toArray, List.getElem?_cons_succ, List.getElem?_cons_zero] at f0 f1 f2
      clear hw hF
      simp only [Oper.wp, execOp]
      rw [e0]
      go_simp
      exact hK _ x (by first | rfl | simp) (Below.refl _ _) (fun h => by simp at h)
    · simp only [wpOp, List.getElem?_toArray, List.getElem?_cons_succ, List.getElem?_cons_zero, Region.wanted, if_true]
      refine Or.inl ?_
      have e0 : a.eval (.tmp 2) = .pointer (some ⟨w.heap.size, 0, none⟩) := hF.2.2 2 (by decide)
      clear hw hF
      simp only [Oper.wp, execOp]
      rw [e0]
      go_simp
      exact hK _ x (by first | rfl | simp) (Below.refl _ _) (fun h => by simp at h)
    · simp only [wpOp, List.getElem?_toArray, List.getElem?_cons_succ, List.getElem?_cons_zero, Region.wanted, if_true]
      refine Or.inl ?_
      have e0 : a.eval (.tmp 11) = .pointer (some ⟨w.heap.size, 0, none⟩) := hw 6 (by kernel_rfl)
      clear hw hF
      simp only [Oper.wp, execOp]
      rw [e0]
      go_simp
      exact hK _ x (by first | rfl | simp) (Below.refl _ _) (fun h => by simp at h)
    · simp only [wpOp, List.getElem?_toArray, List.getElem?_cons_succ, List.getElem?_cons_zero, Region.wanted, if_true]
      refine Or.inl ?_
      have e0 : a.eval (.tmp 12) = .pointer (some ⟨w.heap.size, 1, none⟩) := hw 7 (by kernel_rfl)
      have f0 := row_cell Rx_1.out hb 0
      have f1 := row_cell Rx_1.out hb 1
      have f2 := row_cell Rx_1.out hb 2
      simp only [List.getElem?_toArray, List.getElem?_cons_succ, List.getElem?_cons_zero] at f0 f1 f2
      clear hw hF
      simp only [Oper.wp, execOp]
      rw [e0]
      go_simp
      exact hK _ x (by first | rfl | simp) (Below.refl _ _) (fun h => by simp at h)
    · simp only [wpOp, List.getElem?_toArray, List.getElem?_cons_succ, List.getElem?_cons_zero, Region.wanted, if_true]
      refine Or.inl ?_
      have e0 : a.tmps.getD 13 undef = .slice A xs.length c := hw 8 (by kernel_rfl)
      clear hw hF
      simp only [Oper.wp, execOp]
      go_simp
      exact hK _ x (by first | rfl | simp) (Below.refl _ _) (fun h => by simp at h)
    · simp only [wpOp, List.getElem?_toArray, List.getElem?_cons_succ, List.getElem?_cons_zero, Region.wanted, if_true]
      refine Or.inl ?_
      have e0 : a.eval (.tmp 1) = .int .i64 N := hF.2.2 1 (by decide)
      clear hw hF
      simp only [Oper.wp, execOp]
      rw [e0]
      go_simp
      exact hK _ x (by first | rfl | simp) (Below.refl _ _) (fun h => by simp at h)
    · simp only [wpOp, List.getElem?_toArray, List.getElem?_cons_succ, List.getElem?_cons_zero, Region.wanted, if_true]
      refine Or.inl ?_
      have e0 : a.tmps.getD 14 undef = .int .i64 xs.length := hw 9 (by kernel_rfl)
      have e1 : a.tmps.getD 15 undef = .int .i64 N := hw 10 (by kernel_rfl)
      clear hw hF
      simp only [Oper.wp, execOp]
      go_simp
      exact hK _ x (by first | rfl | simp) (Below.refl _ _) (fun h => by simp at h)
    · simp only [wpOp, List.getElem?_toArray, List.getElem?_cons_succ, List.getElem?_cons_zero, Region.wanted, if_true]
      refine Or.inl ?_
      have e0 : a.tmps.getD 10 undef = .slice A xs.length c := hw 5 (by kernel_rfl)
      have e1 : a.tmps.getD 16 undef = .int .i64 K := hw 11 (by kernel_rfl)
      clear hw hF
      simp only [Oper.wp, execOp]
      go_simp
      exact hK _ x (by first | rfl | simp) (Below.refl _ _) (fun h => by simp at h)
    · simp only [wpOp, List.getElem?_toArray, List.getElem?_cons_succ, List.getElem?_cons_zero, Region.wanted, if_true]
      refine Or.inl ?_
      have e0 : a.eval (.tmp 7) = .bool s := hw 2 (by kernel_rfl)
      have e1 : a.eval (.tmp 17) = .slice A K.toNat c := hw 12 (by kernel_rfl)
      clear hw hF
      simp only [Oper.wp, execOp]
      simp only [List.map_toArray, List.map_cons, List.map_nil, e0, e1]
      go_simp
      exact hK _ x (by first | rfl | simp) (Below.refl _ _) (fun h => by simp at h)
    · simp only [wpOp, List.getElem?_toArray, List.getElem?_cons_succ, List.getElem?_cons_zero, Region.wanted, if_true]
      refine Or.inl ?_
      have e0 : a.eval (.tmp 2) = .pointer (some ⟨w.heap.size, 0, none⟩) := hF.2.2 2 (by decide)
      clear hw hF
      simp only [Oper.wp, execOp]
      rw [e0]
      go_simp
      exact hK _ x (by first | rfl | simp) (Below.refl _ _) (fun h => by simp at h)
    · simp only [wpOp, List.getElem?_toArray, List.getElem?_cons_succ, List.getElem?_cons_zero, Region.wanted, if_true]
      refine Or.inl ?_
      have e0 : a.eval (.tmp 19) = .pointer (some ⟨w.heap.size, 2, none⟩) := hw 14 (by kernel_rfl)
      have f0 := row_cell Rx_1.out hb 0
      have f1 := row_cell Rx_1.out hb 1
      have f2 := row_cell Rx_1.out hb 2
      simp only [List.getElem?_toArray, List.getElem?_cons_succ, List.getElem?_cons_zero] at f0 f1 f2
      clear hw hF
      simp only [Oper.wp, execOp]
      rw [e0]
      go_simp
      exact hK _ x (by first | rfl | simp) (Below.refl _ _) (fun h => by simp at h)
    · simp only [wpOp, List.getElem?_toArray, List.getElem?_cons_succ, List.getElem?_cons_zero, Region.wanted, if_true]
      refine Or.inl ?_
      have e0 : a.eval (.tmp 18) = .agg #[.bool s, .slice A K.toNat c] := hw 13 (by kernel_rfl)
      have e1 : a.eval (.tmp 20) = .int .i64 v := hw 15 (by kernel_rfl)
      clear hw hF
      simp only [Oper.wp, execOp]
      simp only [List.map_toArray, List.map_cons, List.map_nil, e0, e1]
      go_simp
      exact hK _ x (by first | rfl | simp) (Below.refl _ _) (fun h => by simp at h)
  · intro a x hF0 hb hR _
    have hF : Fr6 [5, 6, 7, 8, 9, 10, 11, 12, 13, 14, 15, 16, 17, 18, 19, 20, 21] _ a := hF0
    have e0 : a.tmps.getD 5 undef = .pointer (some ⟨w.heap.size, 0, none⟩) := hR 0 (by decide)
    have e1 : a.tmps.getD 6 undef = .pointer (some ⟨w.heap.size, 0, none⟩) := hR 1 (by decide)
    have e2 : a.tmps.getD 7 undef = .bool s := hR 2 (by decide)
    have e3 : a.tmps.getD 8 undef = .pointer (some ⟨w.heap.size, 0, none⟩) := hR 3 (by decide)
    have e4 : a.tmps.getD 9 undef = .pointer (some ⟨w.heap.size, 1, none⟩) := hR 4 (by decide)
    have e5 : a.tmps.getD 10 undef = .slice A xs.length c := hR 5 (by decide)
    have e6 : a.tmps.getD 11 undef = .pointer (some ⟨w.heap.size, 0, none⟩) := hR 6 (by decide)
    have e7 : a.tmps.getD 12 undef = .pointer (some ⟨w.heap.size, 1, none⟩) := hR 7 (by decide)
    have e8 : a.tmps.getD 13 undef = .slice A xs.length c := hR 8 (by decide)
    have e9 : a.tmps.getD 14 undef = .int .i64 xs.length := hR 9 (by decide)
    have e10 : a.tmps.getD 15 undef = .int .i64 N := hR 10 (by decide)
    have e11 : a.tmps.getD 16 undef = .int .i64 K := hR 11 (by decide)
    have e12 : a.tmps.getD 17 undef = .slice A K.toNat c := hR 12 (by decide)
    have e13 : a.tmps.getD 18 undef = .agg #[.bool s, .slice A K.toNat c] := hR 13 (by decide)
    have e14 : a.tmps.getD 19 undef = .pointer (some ⟨w.heap.size, 2, none⟩) := hR 14 (by decide)
    have e15 : a.tmps.getD 20 undef = .int .i64 v := hR 15 (by decide)
    have e16 : a.tmps.getD 21 undef = .agg #[.bool s, .slice A K.toNat c, .int .i64 v] := hR 16 (by decide)
    rw [hF.fold (by kernel_rfl)]
    simp only [List.foldl_cons, List.foldl_nil, e0, e1, e2, e3, e4, e5, e6, e7, e8, e9, e10, e11, e12, e13, e14, e15, e16]
    simp only [Act.put, List.setIfInBounds_toArray, List.set_cons_zero, List.set_cons_succ]
    clear e0 e1 e2 e3 e4 e5 e6 e7 e8 e9 e10 e11 e12 e13 e14 e15 e16 hR hF hF0
    obtain ⟨w2, hW⟩ : ∃ W : World, W = x := ⟨_, rfl⟩
    rw [← hW]
    rw [← hW] at hb 
    have L2 := ls L1 hb
    have Rx_2 := co Rx_1 hb
    have Rr_2 := co Rr_1 hb
    clear hW hb 
    obtain ⟨fr0, zr0, fr1, zr1, fr2, zr2, xr⟩ := ly3 Rr_2.out
    first | simp only [wpOps_cons] | rw [wpOps_cons] | (change wpOps _ _ _ [17] _ _; simp only [wpOps_cons])
    simp only [wpOp, List.getElem?_toArray, List.getElem?_cons_succ, List.getElem?_cons_zero, Region.wanted, if_true]
    refine Or.inl ?_
    simp only [Oper.wp, execOp]
    go_simp
    try simp only [wpOps]
    clear fr0 zr0 fr1 zr1 fr2 zr2 xr
    obtain ⟨w3, hW⟩ : ∃ W : World, W = (((w2.setCell ⟨w.heap.size + 1, 0, none⟩ (.bool s)).setCell ⟨w.heap.size + 1, 1, none⟩ (.slice A K.toNat c)).setCell ⟨w.heap.size + 1, 2, none⟩ (.int .i64 v)) := ⟨_, rfl⟩
    rw [← hW]
    have hO : Only (w.heap.size + 1) w2 w3 := by rw [hW]; exact ((((Only.refl (w.heap.size + 1) w2).setCell 0 _).setCell 1 _).setCell 2 _)
    have L3 := Lib.hid (live_only L2.out hO Rr_2.out noint_dy Gr)
    have Rx_3 := Lib.hid ((hO.block _ (by omega)).trans Rx_2.out)
    have Rr_3 := Lib.hid (show w3.heap[w.heap.size + 1]? = some (.cells #[.bool s, .slice A K.toNat c, .int .i64 v] 26 (0, 0)) by rw [hW]; exact (heap_setCell_same _ _ 2 _ _ _ (heap_setCell_same _ _ 1 _ _ _ (heap_setCell_same _ _ 0 _ _ _ Rr_2.out))))
    clear hW hO
    obtain ⟨fr0, zr0, fr1, zr1, fr2, zr2, xr⟩ := ly3 Rr_3.out
    go_wp2
    refine bodyPost_ret (v := .agg #[.bool s, .slice A K.toNat c, .int .i64 v]) (by simp [results, Tryd.results7, go_sem, fr0, fr1, fr2]) rfl ?_
    exact ⟨rfl, L3.out.1⟩

theorem cut_l {A : Option Addr} {c : Nat} {s : Bool} {xs ts : List Nat} {x N : Int} {w : World} (hmin : min (xs.length : Int) N = (ts.length : Int)) (hc : ts.length ≤ c) :
    Calls Tryd.prog 7 #[.agg #[.bool s, .slice A xs.length c, .int .i64 x], .int .i64 N] w fun e w' => e = .returned (.agg #[.bool s, .slice A ts.length c, .int .i64 x]) ∧ Below w.heap.size w w' := by
  have := cut_ A c s xs x N ts.length w hmin (by omega) (by omega)
  rw [Int.toNat_natCast] at this; exact this

theorem add_both {s r : Bool} {xs ys : List Nat} {x y : Int} (hk : ok32 xs) (hk' : ok32 ys) (hl : xs.length ≤ 10000) (hl' : ys.length ≤ 10000) : ∃ K F V : Int, (digs K.natAbs).length ≤ 10000 ∧ (∀ (A : Option Addr) (c : Nat) (B : Option Addr) (d : Nat) (w : World), Dg w A c xs → Dg w B d ys → T32 w → Calls Tryd.prog 23 #[.agg #[.bool s, .slice A xs.length c, .int .i64 x], .agg #[.bool r, .slice B ys.length d, .int .i64 y]] w fun e w' => Ye K F V w e w') ∧ (∀ (A : Option Addr) (c : Nat) (B : Option Addr) (d : Nat) (w : World), Dg w A c xs → Dg w B d ys → Calls Tryd.prog 24 #[.agg #[.bool s, .slice A xs.length c, .int .i64 x], .agg #[.bool r, .slice B ys.length d, .int .i64 y]] w fun e w' => Ye K F V w e w') := by
  cases hq : (dyR s xs x && dyR r ys y)
  · refine ⟨0, 0, 1, d00, fun A c B d w h h' hT => ?_, fun A c B d w h h' => r5add_no h h' (by omega) (by omega) hq⟩
    refine (dadd_no A B c d s r xs ys x y w h h' (by omega) (by omega) hq).mono ?_
    rintro e w' ⟨rfl, hb⟩
    exact zero_ye hb
  · rw [Bool.and_eq_true] at hq
    obtain ⟨m, rfl, rfl, r1⟩ := num_of hk hq.1
    obtain ⟨n, rfl, rfl, r2⟩ := num_of hk' hq.2
    obtain ⟨M, E, hs⟩ := isD_add m x n y
    obtain ⟨⟨K, F, V⟩, ht⟩ : ∃ t, tot M E = t := ⟨_, rfl⟩
    exact ⟨K, F, V, (tot_len ht hs.1).1, fun A c B d w h h' hT => tadd h h' hl hl' r1 r2 hT hs ht, fun A c B d w h h' => r5add_t h h' hl hl' r1 r2 hs ht⟩

theorem sub_noU {A B : Option Addr} {c d : Nat} {s r : Bool} {xs ys : List Nat} {x y : Int} {w : World} (hk : ok32 xs) (hk' : ok32 ys) (h : Dg w A c xs) (h' : Dg w B d ys) (hl : xs.length ≤ 10000) (hl' : ys.length ≤ 10000) (hq : (dyR s xs x && dyR r ys y) = false) :
    Calls Tryd.prog 26 #[.agg #[.bool s, .slice A xs.length c, .int .i64 x], .agg #[.bool r, .slice B ys.length d, .int .i64 y]] w fun e w' => Ye 0 0 1 w e w' := by
  cases h2 : dyR r ys y
  · exact r5sub_w A B c d s xs x r ys y w h (by omega) h' (by omega) h2
  · rw [h2, Bool.and_true] at hq
    obtain ⟨n, rfl, rfl, r2⟩ := num_of hk' h2
    exact r5sub_x A B c d s xs x n y w h (by omega) h' hl' r2 hq

theorem sub_both {s r : Bool} {xs ys : List Nat} {x y : Int} (hk : ok32 xs) (hk' : ok32 ys) (hl : xs.length ≤ 10000) (hl' : ys.length ≤ 10000) : ∃ K F V : Int, (digs K.natAbs).length ≤ 10000 ∧ (∀ (A : Option Addr) (c : Nat) (B : Option Addr) (d : Nat) (w : World), Dg w A c xs → Dg w B d ys → T32 w → Calls Tryd.prog 25 #[.agg #[.bool s, .slice A xs.length c, .int .i64 x], .agg #[.bool r, .slice B ys.length d, .int .i64 y]] w fun e w' => Ye K F V w e w') ∧ (∀ (A : Option Addr) (c : Nat) (B : Option Addr) (d : Nat) (w : World), Dg w A c xs → Dg w B d ys → Calls Tryd.prog 26 #[.agg #[.bool s, .slice A xs.length c, .int .i64 x], .agg #[.bool r, .slice B ys.length d, .int .i64 y]] w fun e w' => Ye K F V w e w') := by
  cases hq : (dyR s xs x && dyR r ys y)
  · refine ⟨0, 0, 1, d00, fun A c B d w h h' hT => ?_, fun A c B d w h h' => sub_noU hk hk' h h' hl hl' hq⟩
    refine (dsub_no A B c d s r xs ys x y w h h' (by omega) (by omega) hq).mono ?_
    rintro e w' ⟨rfl, hb⟩
    exact zero_ye hb
  · rw [Bool.and_eq_true] at hq
    obtain ⟨m, rfl, rfl, r1⟩ := num_of hk hq.1
    obtain ⟨n, rfl, rfl, r2⟩ := num_of hk' hq.2
    obtain ⟨M, E, hs⟩ := isD_sub m x n y
    obtain ⟨⟨K, F, V⟩, ht⟩ : ∃ t, tot M E = t := ⟨_, rfl⟩
    exact ⟨K, F, V, (tot_len ht hs.1).1, fun A c B d w h h' hT => tsub h h' hl hl' r1 r2 hT hs ht, fun A c B d w h h' => r5sub_t A B c d m n x y M E w h h' hl hl' r1 r2 hs ht⟩

theorem mul_both {s r : Bool} {xs ys : List Nat} {x y : Int} (hk : ok32 xs) (hk' : ok32 ys) (hl : xs.length ≤ 10000) (hl' : ys.length ≤ 10000) : ∃ K F V : Int, (digs K.natAbs).length ≤ 10000 ∧ (∀ (A : Option Addr) (c : Nat) (B : Option Addr) (d : Nat) (w : World), Dg w A c xs → Dg w B d ys → T32 w → Calls Tryd.prog 27 #[.agg #[.bool s, .slice A xs.length c, .int .i64 x], .agg #[.bool r, .slice B ys.length d, .int .i64 y]] w fun e w' => Ye K F V w e w') ∧ (∀ (A : Option Addr) (c : Nat) (B : Option Addr) (d : Nat) (w : World), Dg w A c xs → Dg w B d ys → Calls Tryd.prog 28 #[.agg #[.bool s, .slice A xs.length c, .int .i64 x], .agg #[.bool r, .slice B ys.length d, .int .i64 y]] w fun e w' => Ye K F V w e w') := by
  cases hq : (dyR s xs x && dyR r ys y)
  · refine ⟨0, 0, 1, d00, fun A c B d w h h' hT => ?_, fun A c B d w h h' => r5mul_no h h' (by omega) (by omega) hq⟩
    refine (dmul_no A B c d s r xs ys x y w h h' (by omega) (by omega) hq).mono ?_
    rintro e w' ⟨rfl, hb⟩
    exact zero_ye hb
  · rw [Bool.and_eq_true] at hq
    obtain ⟨m, rfl, rfl, r1⟩ := num_of hk hq.1
    obtain ⟨n, rfl, rfl, r2⟩ := num_of hk' hq.2
    obtain ⟨M, E, hs⟩ := isD_mul m x n y
    obtain ⟨⟨K, F, V⟩, ht⟩ : ∃ t, tot M E = t := ⟨_, rfl⟩
    exact ⟨K, F, V, (tot_len ht hs.1).1, fun A c B d w h h' hT => tmul h h' hl hl' r1 r2 hT hs ht, fun A c B d w h h' => r5mul_t A B c d m n x y M E w h h' hl hl' r1 r2 hs ht⟩

theorem scale_both {s : Bool} {xs : List Nat} {x : Int} (n : Int) (hk : ok32 xs) (hl : xs.length ≤ 10000) : ∃ K F V : Int, (digs K.natAbs).length ≤ 10000 ∧ (∀ (A : Option Addr) (c : Nat) (w : World), Dg w A c xs → T32 w → Calls Tryd.prog 29 #[.agg #[.bool s, .slice A xs.length c, .int .i64 x], .int .i64 n] w fun e w' => Ye K F V w e w') ∧ (∀ (A : Option Addr) (c : Nat) (w : World), Dg w A c xs → Calls Tryd.prog 30 #[.agg #[.bool s, .slice A xs.length c, .int .i64 x], .int .i64 n] w fun e w' => Ye K F V w e w') := by
  cases hq : dyR s xs x
  · refine ⟨0, 0, 1, d00, fun A c w h hT => ?_, fun A c w h => r5scale_w A c s xs x n w h (by omega) hq⟩
    have key : Calls Tryd.prog 29 #[.agg #[.bool s, .slice A xs.length c, .int .i64 x], .int .i64 n] w fun e w' => e = .returned (.tuple #[.agg #[.bool false, .slice none 0 0, .int .i64 0], .int .i64 1]) ∧ Below w.heap.size w w' := by
      by_cases h1 : n < -100000
      · exact scale_wl A c s xs x n w h (by omega) hq h1
      · by_cases h2 : 100000 < n
        · exact scale_wh A c s xs x n w h (by omega) hq h2
        · exact scale_wm A c s xs x n w h (by omega) hq ⟨by omega, by omega⟩
    refine key.mono ?_
    rintro e w' ⟨rfl, hb⟩
    exact zero_ye hb
  · by_cases h1 : n < -100000
    · have hq' := hq
      obtain ⟨m, rfl, rfl, r1⟩ := num_of hk hq
      refine ⟨0, 0, 4, d00, fun A c w h hT => ?_, fun A c w h => r5scale_l A c m x n w h hl r1 h1⟩
      refine (scale_ol A c _ _ x n w h (by omega) hq' h1).mono ?_
      rintro e w' ⟨rfl, hb⟩
      exact zero_ye hb
    · by_cases h2 : 100000 < n
      · have hq' := hq
        obtain ⟨m, rfl, rfl, r1⟩ := num_of hk hq
        refine ⟨0, 0, 4, d00, fun A c w h hT => ?_, fun A c w h => r5scale_h A c m x n w h hl r1 h2⟩
        refine (scale_oh A c _ _ x n w h (by omega) hq' h2).mono ?_
        rintro e w' ⟨rfl, hb⟩
        exact zero_ye hb
      · obtain ⟨m, rfl, rfl, r1⟩ := num_of hk hq
        by_cases m0 : m = 0
        · have hx := nf_zero r1.1 m0
          subst m0 hx
          exact ⟨0, 0, 0, d00, fun A c w h hT => tscale_yes_ A c 0 0 n 0 0 w h hl r1 hT (by omega) (by omega) ⟨.inl ⟨rfl, rfl⟩, by rw [dv_zero, dv_zero]⟩ (by have := d00; omega) (by unfold tot inR; simp), fun A c w h => r5scale_z A c 0 0 n w h hl r1 ⟨by omega, by omega⟩ rfl⟩
        · have hn : Nf m (x + n) := by rcases r1.1 with h | h; exact absurd h.1 m0; exact .inr h
          obtain ⟨⟨K, F, V⟩, ht⟩ : ∃ t, tot m (x + n) = t := ⟨_, rfl⟩
          exact ⟨K, F, V, (tot_len ht hn).1, fun A c w h hT => tscale_yes_ A c m x n m (x + n) w h hl r1 hT (by omega) (by omega) ⟨hn, rfl⟩ (by omega) ht, fun A c w h => r5scale_t A c m x n w h hl r1 ⟨by omega, by omega⟩ m0 ht⟩
end Go.Proofs.YtaciohjobenipaaDoor
end

section
/-
  From a law's walk to its statement: what comes in is opened, read again behind the call, and handed on.
-/
namespace Go.Proofs.YtaciohjobenipaaDoor
open Go.RowKit Go.WideShapes Go.ChangeShapes Go.ChangeAt
set_option maxRecDepth 100000
theorem own : ownKnob Tryd.prog.godebug = none := by kernel_rfl
theorem laidOut : laidOutB Tryd.prog = true := by kernel_rfl
theorem below_cell_lt {w : World} {b o : Nat} {v : Value} (h : w.cell? ⟨b, o, none⟩ = some v) : b < w.heap.size := by
  rcases Nat.lt_or_ge b w.heap.size with hlt | hge
  · exact hlt
  · have e := Array.getElem?_eq_none hge
    simp [World.cell?, e] at h
theorem cellsElem : Tryd.prog.cellsOf 52 = 1 := by kernel_rfl
/-- A slice of digits that came in. -/
theorem open_dg {H : Type} {enc : TypeId × Value → H} {W : World} {base : Nat} {spare : Nat → Bool} {held : Bool} {v : Value} {d : DataW H} {ps : List MemPlace}
    (hval : Value.okWide Tryd.prog W .any base 22 v) (hd : DataW.Trod enc Tryd.prog W 0 spare held 22 v d ps) : ∃ A c xs, v = .slice A xs.length c ∧ Dg W A c xs := by
  obtain ⟨a0, len, cap, rfl⟩ := okWide_slice Tryd.underlying22 hval
  obtain ⟨fuel, hf⟩ := hd
  rcases open_ints Tryd.underlying22 Tryd.underlying52 cellsElem hf with ⟨hcs, _⟩ | ⟨a, len', cap', zs, hcs, _, hl, hm, hz, _, hcell, hwz⟩
  · simp [Value.cells] at hcs
    obtain ⟨rfl, rfl, rfl⟩ := hcs
    exact ⟨none, 0, [], rfl, Dg.nil_ _ _⟩
  · simp [Value.cells] at hcs
    obtain ⟨rfl, rfl, rfl⟩ := hcs
    have hlz : len ≤ zs.length := by rw [hz]; split <;> omega
    have hn : ∀ n ∈ zs, 0 ≤ n ∧ n ≤ 4294967295 := fun n hn => by simpa [Lit.wf, IntKind.min, IntKind.max, IntKind.signed, IntKind.bits] using hwz n hn
    have hxl : ((zs.take len).map Int.toNat).length = len := by simp; omega
    refine ⟨some a, cap, (zs.take len).map Int.toNat, by rw [hxl], by rw [hxl]; exact hl, ?_, fun h0 => ?_⟩
    · intro x hx
      obtain ⟨z, hz', rfl⟩ := List.mem_map.1 hx
      have := hn z (List.mem_of_mem_take hz')
      omega
    · rw [hxl] at h0
      obtain ⟨b, off, spot⟩ := a
      have hspot : spot = none := by simpa [Addr.add] using World.cell?_spot (hcell 0 (by omega))
      subst hspot
      refine ⟨b, off, rfl, below_cell_lt (v := .int .u32 (zs.getD 0 0)) (o := off) (by have := hcell 0 (by omega); simpa [Addr.add] using this), fun j hj => ?_⟩
      rw [hxl] at hj
      have hc := hcell j (by omega)
      rw [Addr.add_lit] at hc
      rw [hc]
      have hjz : j < zs.length := by omega
      have hb := hn zs[j] (List.getElem_mem hjz)
      simp [hj, List.getElem?_eq_getElem hjz]
      omega
section
variable {H : Type} {enc : TypeId × Value → H} {P : Program}
/-- A law's end: true; older memory stays; each argument reads as it read. -/
theorem law_post {f : Func} {s : ChangeSpec} {W W' : World} {args : Array Value} {ds : List (DataW H)} {before : List MemPlace} {tb : TypeId}
    (hW : DataW.Whole enc P f.params.toList s.vars false W args.toList ds [] before) (hb : Below W.heap.size W W') (hv : s.vars = []) (hrt : f.resultTypes = #[tb]) (htb : P.underlying tb = some .bool)
    (hsr : (s.fn H (ds ++ [])).results = [.lit (.bool true)]) (hsv : (s.fn H (ds ++ [])).vars = [])
    (hargs : ∀ sp : Nat → Bool, (∀ p ∈ before, sp p.block = true) → DataW.TrodAll enc P W' 0 sp true f.params.toList args.toList (s.fn H (ds ++ [])).args before) :
    s.post enc P f false true false false W args (.bool true) W' := by
  have hlt : ∀ p ∈ before, p.block < W.heap.size := fun p hp => hW.lt p hp
  have hold : ∀ p ∈ before, (fun b => decide (b < W.heap.size)) p.block = true := fun p hp => by simpa using hlt p hp
  have hvars : ∀ sp : Nat → Bool, DataW.TrodVars enc P W' sp s.vars (s.fn H (ds ++ [])).vars [] := fun sp => by rw [hv, hsv]; rfl
  refine ⟨ds, [], before, [], before, [], hW, ?_, hargs _ hold, hvars _, World.keptBut_mono (fun p hp => ⟨hp, by simpa using hp⟩) (hb.frame (· ∈ before)), fun h => by cases h⟩
  rw [hrt, hsr]
  exact trodAll_cons_mk (shut_bool htb _) trodAll_mk0
end
/-- An argument reads behind the call as it read ahead of it. -/
theorem again {H : Type} {enc : TypeId × Value → H} {W W' : World} {t : TypeId} {v : Value} {d : DataW H} {ps : List MemPlace} (hr : Tryd.prog.readableRec t = true) (hrow : t < Tryd.prog.types.size)
    (h : DataW.Trod enc Tryd.prog W 0 (fun _ => true) true t v d ps) (hb : Below W.heap.size W W') (hlt : ∀ x ∈ ps, x.block < W.heap.size) (sp : Nat → Bool) (hsp : ∀ x ∈ ps, sp x.block = true) :
    DataW.Trod enc Tryd.prog W' 0 sp true t v d ps :=
  WideElems.Trod_stays laidOut hr hrow h (fun x hx => hb.same (hlt x hx)) hsp
end Go.Proofs.YtaciohjobenipaaDoor
end

section
/-
  From a walk of layer 5 to its card: what the laid table gives, and a number that comes in.
-/
namespace Go.Proofs.YtaciohjobenipaaDoor
open Go.RowKit Go.WideShapes Go.ChangeShapes Go.ChangeAt Go.Deep
set_option maxRecDepth 100000
theorem i64_lo {a : Int} (g : (Lit.int .i64 a).wf = true) : -9223372036854775808 ≤ a := by
  simp only [Lit.wf, Bool.and_eq_true, decide_eq_true_eq] at g; exact g.1
theorem i64_hi {a : Int} (g : (Lit.int .i64 a).wf = true) : a ≤ 9223372036854775807 := by
  simp only [Lit.wf, Bool.and_eq_true, decide_eq_true_eq] at g; exact g.2
theorem i32_lo {a : Int} (g : (Lit.int .i32 a).wf = true) : -2147483648 ≤ a := by
  simp only [Lit.wf, Bool.and_eq_true, decide_eq_true_eq] at g; exact g.1
theorem i32_hi {a : Int} (g : (Lit.int .i32 a).wf = true) : a ≤ 2147483647 := by
  simp only [Lit.wf, Bool.and_eq_true, decide_eq_true_eq] at g; exact g.2
theorem t32Type : (Tryd.prog.globals[0]?).map (·.type) = some 119 := by kernel_rfl
/-- THE TABLE OF BITS, out of the row's condition. -/
theorem t32_laid {W : World} {xs : List (String × DataW Unit)} (h : laidMet Tryd.prog (("math/bits.deBruijn32tab", Lib.tabData .u8 tab32) :: xs) W) : T32 W :=
  Lib.tabIs_of_head g32 t32Type Tryd.underlying119 Tryd.underlying5 (by kernel_rfl) (by kernel_rfl) h
/-- Digits that came in as a part. -/
theorem open_dg0 {H : Type} {enc : TypeId × Value → H} {W : World} {spare : Nat → Bool} {held : Bool} {a0 : Option Addr} {len cap : Nat} {y : DataW H × List MemPlace}
    (hd : ∃ n, DataW.trod enc Tryd.prog W 0 spare held n 22 [.slice a0 len cap] = some y) : ∃ A c xs, Value.slice a0 len cap = .slice A xs.length c ∧ Dg W A c xs ∧ xs.length ≤ 9223372036854775807 := by
  obtain ⟨fuel, hf⟩ := hd
  obtain ⟨d, ps⟩ := y
  rcases open_ints Tryd.underlying22 Tryd.underlying52 cellsElem hf with ⟨hcs, _⟩ | ⟨a, len', cap', zs, hcs, _, hl, hm, hz, _, hcell, hwz⟩
  · simp at hcs
    obtain ⟨rfl, rfl, rfl⟩ := hcs
    exact ⟨none, 0, [], rfl, Dg.nil_ _ _, by simp⟩
  · simp at hcs
    obtain ⟨rfl, rfl, rfl⟩ := hcs
    have hlz : len ≤ zs.length := by rw [hz]; split <;> omega
    have hn : ∀ n ∈ zs, 0 ≤ n ∧ n ≤ 4294967295 := fun n hn => by simpa [Lit.wf, IntKind.min, IntKind.max, IntKind.signed, IntKind.bits] using hwz n hn
    have hxl : ((zs.take len).map Int.toNat).length = len := by simp; omega
    refine ⟨some a, cap, (zs.take len).map Int.toNat, by rw [hxl], ⟨by rw [hxl]; exact hl, ?_, fun h0 => ?_⟩, by rw [hxl]; unfold maxLen at hm; omega⟩
    · intro x hx
      obtain ⟨z, hz', rfl⟩ := List.mem_map.1 hx
      have := hn z (List.mem_of_mem_take hz')
      omega
    · rw [hxl] at h0
      obtain ⟨b, off, spot⟩ := a
      have hspot : spot = none := by simpa [Addr.add] using World.cell?_spot (hcell 0 (by omega))
      subst hspot
      refine ⟨b, off, rfl, below_cell_lt (v := .int .u32 (zs.getD 0 0)) (o := off) (by have := hcell 0 (by omega); simpa [Addr.add] using this), fun j hj => ?_⟩
      rw [hxl] at hj
      have hc := hcell j (by omega)
      rw [Addr.add_lit] at hc
      rw [hc]
      have hjz : j < zs.length := by omega
      have hb := hn zs[j] (List.getElem_mem hjz)
      simp [hj, List.getElem?_eq_getElem hjz]
      omega
/-- A number that came in. -/
theorem open_d {H : Type} {enc : TypeId × Value → H} {W : World} {base : Nat} {v : Value} {d : DataW H} {ps : List MemPlace}
    (hval : Value.okWide Tryd.prog W .any base 26 v) (hd : DataW.Trod enc Tryd.prog W 0 (fun _ => true) true 26 v d ps) :
    ∃ s A c xs e, v = .agg #[.bool s, .slice A xs.length c, .int .i64 e] ∧ Dg W A c xs ∧ xs.length ≤ 9223372036854775807 ∧ -9223372036854775808 ≤ e ∧ e ≤ 9223372036854775807 := by
  obtain ⟨cs, rfl, hsz⟩ := okWide_struct Tryd.underlying26 hval
  obtain ⟨v0, v1, v2, rfl⟩ := Go.Joins.array3 (hsz.trans (by kernel_rfl))
  obtain ⟨fuel, hf⟩ := hd
  obtain ⟨y0, y1, n, _, _, h0, h1⟩ := trod_struct2 Tryd.underlying26 hf
  have c0 : Tryd.prog.cellsOf 24 = 2 := by kernel_rfl
  have c1 : Tryd.prog.cellsOf 3 = 1 := by kernel_rfl
  have c2 : Tryd.prog.cellsOf 4 = 1 := by kernel_rfl
  have c3 : Tryd.prog.cellsOf 22 = 1 := by kernel_rfl
  simp only [Value.cells, c0, c1, List.drop_zero] at h0 h1
  obtain ⟨z0, z1, k, _, _, g0, g1⟩ := trod_struct2 Tryd.underlying24 h0
  simp only [c2, c3] at g0 g1
  obtain ⟨s, e0, _⟩ := DataW.trod_bool Tryd.underlying4 g0
  obtain rfl : v0 = .bool s := by simpa using e0
  obtain ⟨a0, len, cap, e1⟩ := Go.Joins.slice_form Tryd.underlying22 g1
  obtain rfl : v1 = .slice a0 len cap := by simpa using e1
  obtain ⟨e, e2, _, hw⟩ := DataW.trod_int Tryd.underlying3 h1
  obtain rfl : v2 = .int .i64 e := by simpa using e2
  obtain ⟨A, c, xs, ee, g, gl⟩ := open_dg0 ⟨k, g1⟩
  exact ⟨s, A, c, xs, e, by rw [ee], g, gl, i64_lo hw, i64_hi hw⟩
end Go.Proofs.YtaciohjobenipaaDoor
end

section
/-
  dyad.Make of what is too far or not in range.
-/
namespace Go.Proofs.YtaciohjobenipaaDoor
open Go.RowKit
set_option linter.unusedSimpArgs false
set_option linter.unusedVariables false
set_option maxHeartbeats 4000000 in
set_option maxRecDepth 100000 in
theorem make_l (A : Option Addr) (c : Nat) (s : Bool) (xs : List Nat) (y : Int) (w : World) (h : Dg w A c xs) (hl : xs.length ≤ 400000) (hy : y < -100000):
    Calls Tryd.prog 8 #[.agg #[.bool s, .slice A xs.length c], .int .i64 y] w fun e w' => e = .returned (.tuple #[.agg #[.bool false, .slice none 0 0, .int .i64 0], .bool false]) ∧ Below w.heap.size w w' := by
  have d1 : decide (y < -100000) = true := by simp; omega
  have d2 : decide (100000 < y) = false := by simp; omega
  have L0 := Lib.hid ((live_start w).add h)
  clear h hl hy
  go_enter Tryd.func8, Tryd.ntmps8
  go_wp2_with fail
  obtain ⟨v1, hW, hb, Rm_1, Rr_1⟩ := new2 w (.cells #[.bool s, .slice A xs.length c] 24) (.cells #[.bool false, .slice none 0 0, .int .i64 0] 26)
  rw [← hW]
  have L1 := ls L0 hb
  have Gm := gl0 L0.out
  have Gr := gl1 L0.out
  have Nmr : w.heap.size < w.heap.size + 1 := by omega
  clear hW hb
  obtain ⟨fr0, zr0, fr1, zr1, fr2, zr2, xr⟩ := ly3 Rr_1.out
  refine bodyPost_ret (v := .tuple #[.agg #[.bool false, .slice none 0 0, .int .i64 0], .bool false]) (by simp [results, Tryd.results8, go_sem, fr0, fr1, fr2]) rfl ?_
  
  exact ⟨rfl, L1.out.1⟩

set_option maxHeartbeats 4000000 in
set_option maxRecDepth 100000 in
theorem make_h (A : Option Addr) (c : Nat) (s : Bool) (xs : List Nat) (y : Int) (w : World) (h : Dg w A c xs) (hl : xs.length ≤ 400000) (hy : 100000 < y):
    Calls Tryd.prog 8 #[.agg #[.bool s, .slice A xs.length c], .int .i64 y] w fun e w' => e = .returned (.tuple #[.agg #[.bool false, .slice none 0 0, .int .i64 0], .bool false]) ∧ Below w.heap.size w w' := by
  have d1 : decide (y < -100000) = false := by simp; omega
  have d2 : decide (100000 < y) = true := by simp; omega
  have L0 := Lib.hid ((live_start w).add h)
  clear h hl hy
  go_enter Tryd.func8, Tryd.ntmps8
  go_wp2_with fail
  obtain ⟨v1, hW, hb, Rm_1, Rr_1⟩ := new2 w (.cells #[.bool s, .slice A xs.length c] 24) (.cells #[.bool false, .slice none 0 0, .int .i64 0] 26)
  rw [← hW]
  have L1 := ls L0 hb
  have Gm := gl0 L0.out
  have Gr := gl1 L0.out
  have Nmr : w.heap.size < w.heap.size + 1 := by omega
  clear hW hb
  obtain ⟨fr0, zr0, fr1, zr1, fr2, zr2, xr⟩ := ly3 Rr_1.out
  refine bodyPost_ret (v := .tuple #[.agg #[.bool false, .slice none 0 0, .int .i64 0], .bool false]) (by simp [results, Tryd.results8, go_sem, fr0, fr1, fr2]) rfl ?_
  
  exact ⟨rfl, L1.out.1⟩

set_option maxHeartbeats 4000000 in
set_option maxRecDepth 100000 in
theorem make_o (A : Option Addr) (c : Nat) (s : Bool) (xs : List Nat) (y M E : Int) (w : World) (h : Dg w A c xs) (hl : xs.length ≤ 400000) (hT : T32 w) (hy0 : -100000 ≤ y) (hy1 : y ≤ 100000) (hM : nm (sg s (val xs)) = M) (hE : nx (sg s (val xs)) y = E) (hq : inR M E = false):
    Calls Tryd.prog 8 #[.agg #[.bool s, .slice A xs.length c], .int .i64 y] w fun e w' => e = .returned (.tuple #[.agg #[.bool false, .slice none 0 0, .int .i64 0], .bool false]) ∧ Below w.heap.size w w' := by
  have l1 := digs_len_le h.2.1
  have MK := Lib.hid (fun W (hW : Dg W A c xs) => zmake_any A c s xs W hW (by omega))
  obtain ⟨z, hz⟩ : ∃ z, sg s (val xs) = z := ⟨_, rfl⟩
  have hzl : (digs z.natAbs).length ≤ 400000 := by rw [← hz, sg_abs]; omega
  rw [hz] at MK hM hE
  have hml := nm_len z
  rw [hM] at hml
  have LZ := Lib.hid hzl
  have LM := Lib.hid (show (digs M.natAbs).length ≤ 400000 by omega)
  have HM := Lib.hid (show nm (sg (decide (z < 0)) z.natAbs) = M by rw [sg_abs2]; exact hM)
  have HE := Lib.hid (show nx (sg (decide (z < 0)) z.natAbs) y = E by rw [sg_abs2]; exact hE)
  have HQ := Lib.hid hq
  have d1 : decide (y < -100000) = false := by simp; omega
  have d2 : decide (100000 < y) = false := by simp; omega
  have HT := Lib.hid hT
  clear hT
  have L0 := Lib.hid ((live_start w).add h)
  clear h hz hzl hM hE hml hq l1
  go_enter Tryd.func8, Tryd.ntmps8
  go_wp2_with fail
  obtain ⟨v1, hW, hb, Rm_1, Rr_1⟩ := new2 w (.cells #[.bool s, .slice A xs.length c] 24) (.cells #[.bool false, .slice none 0 0, .int .i64 0] 26)
  rw [← hW]
  have L1 := ls L0 hb
  have Gm := gl0 L0.out
  have Gr := gl1 L0.out
  have Nmr : w.heap.size < w.heap.size + 1 := by omega
  clear hW hb
  refine (MK.out _ (L1.out.get (A := A) (c := c) (xs := xs) (by simp))).mono ?_
  rintro e w2 ⟨A2, c2, rfl, hd, hb⟩
  have L2 := la L1 hb hd
  have Rm_2 := co Rm_1 hb
  have Rr_2 := co Rr_1 hb
  clear hb hd
  obtain ⟨fm0, zm0, fm1, zm1, xm⟩ := ly2 Rm_2.out
  go_wp2_with fail
  refine (odd_any A2 c2 (decide (z < 0)) z.natAbs y M E _ (L2.out.get (A := A2) (c := c2) (xs := digs z.natAbs) (by simp)) (Nat.le_trans LZ.out (by omega)) (t32_live HT.out L2.out) ⟨by omega, by omega⟩ HM.out HE.out).mono ?_
  rintro e w3 ⟨A3, c3, rfl, hd, hb⟩
  have L3 := la L2 hb hd
  clear fm0 zm0 fm1 zm1 xm
  have Rm_3 := co Rm_2 hb
  have Rr_3 := co Rr_2 hb
  clear hb hd
  go_wp2_with fail
  obtain ⟨w4, hW, hb, Rx_4⟩ := new1 w3 (.cells #[.bool (decide (M < 0)), .slice A3 (digs M.natAbs).length c3, .int .i64 E] 26)
  rw [← hW]
  have L4 := ls L3 hb
  have Rm_4 := co Rm_3 hb
  have Rr_4 := co Rr_3 hb
  have Gx := gl0 L3.out
  have Nmx := nl0 Rm_3.out
  have Nrx := nl0 Rr_3.out
  clear hW hb
  refine (inRange_any A3 c3 (decide (M < 0)) M E _ (L4.out.get (A := A3) (c := c3) (xs := digs M.natAbs) (by simp)) false HQ.out (Nat.le_trans LM.out (by omega))).mono ?_
  rintro e w5 ⟨rfl, hb⟩
  have L5 := ls L4 hb
  have Rm_5 := co Rm_4 hb
  have Rr_5 := co Rr_4 hb
  have Rx_5 := co Rx_4 hb
  clear hb 
  obtain ⟨fr0, zr0, fr1, zr1, fr2, zr2, xr⟩ := ly3 Rr_5.out
  go_wp2
  refine bodyPost_ret (v := .tuple #[.agg #[.bool false, .slice none 0 0, .int .i64 0], .bool false]) (by simp [results, Tryd.results8, go_sem, fr0, fr1, fr2]) rfl ?_
  
  exact ⟨rfl, (fin3 L5.out Rr_5.out noint3 Gr).1⟩
end Go.Proofs.YtaciohjobenipaaDoor
end

section
/-
  dyad.Neg, Cmp of numbers that are not right.
-/
namespace Go.Proofs.YtaciohjobenipaaDoor
open Go.RowKit
set_option linter.unusedSimpArgs false
set_option linter.unusedVariables false
set_option maxHeartbeats 4000000 in
set_option maxRecDepth 100000 in
theorem dneg_no (A : Option Addr) (c : Nat) (s : Bool) (xs : List Nat) (x : Int) (w : World) (h : Dg w A c xs) (hl : xs.length ≤ 9223372036854775807) (hq : dyR s xs x = false):
    Calls Tryd.prog 15 #[.agg #[.bool s, .slice A xs.length c, .int .i64 x]] w fun e w' => e = .returned (.agg #[.bool false, .slice none 0 0, .int .i64 0]) ∧ Below w.heap.size w w' := by
  have lx := Lib.hid hl
  have HQ := Lib.hid hq
  have L0 := Lib.hid ((live_start w).add h)
  clear h hl hq
  go_enter Tryd.func15, Tryd.ntmps15
  go_wp2_with fail
  obtain ⟨v1, hW, hb, Rx_1, Rr_1⟩ := new2 w (.cells #[.bool s, .slice A xs.length c, .int .i64 x] 26) (.cells #[.bool false, .slice none 0 0, .int .i64 0] 26)
  rw [← hW]
  have L1 := ls L0 hb
  have Gx := gl0 L0.out
  have Gr := gl1 L0.out
  have Nxr : w.heap.size < w.heap.size + 1 := by omega
  clear hW hb
  refine (dright_any A c s xs x _ (L1.out.get (A := A) (c := c) (xs := xs) (by simp)) false HQ.out lx.out).mono ?_
  rintro e w2 ⟨rfl, hb⟩
  have L2 := ls L1 hb
  have Rx_2 := co Rx_1 hb
  have Rr_2 := co Rr_1 hb
  clear hb 
  obtain ⟨fr0, zr0, fr1, zr1, fr2, zr2, xr⟩ := ly3 Rr_2.out
  go_wp2
  refine bodyPost_ret (v := .agg #[.bool false, .slice none 0 0, .int .i64 0]) (by simp [results, Tryd.results15, go_sem, fr0, fr1, fr2]) rfl ?_
  
  exact ⟨rfl, (fin3 L2.out Rr_2.out noint3 Gr).1⟩

set_option maxHeartbeats 4000000 in
set_option maxRecDepth 100000 in
theorem dcmp_no1 (A B : Option Addr) (c d : Nat) (s r : Bool) (xs ys : List Nat) (x y : Int) (w : World) (h : Dg w A c xs) (h' : Dg w B d ys) (hl : xs.length ≤ 9223372036854775807) (hl' : ys.length ≤ 9223372036854775807) (hq : dyR s xs x = false):
    Calls Tryd.prog 19 #[.agg #[.bool s, .slice A xs.length c, .int .i64 x], .agg #[.bool r, .slice B ys.length d, .int .i64 y]] w fun e w' => e = .returned (.int .i64 0) ∧ Below w.heap.size w w' := by
  have lx := Lib.hid hl
  have ly := Lib.hid hl'
  have HQ := Lib.hid hq
  have L0 := Lib.hid (((live_start w).add h).add h')
  clear h h' hl hl' hq
  go_enter Tryd.func19, Tryd.ntmps19
  go_wp2_with fail
  obtain ⟨v1, hW, hb, Rx_1, Ry_1⟩ := new2 w (.cells #[.bool s, .slice A xs.length c, .int .i64 x] 26) (.cells #[.bool r, .slice B ys.length d, .int .i64 y] 26)
  rw [← hW]
  have L1 := ls L0 hb
  have Gx := gl0 L0.out
  have Gy := gl1 L0.out
  have Nxy : w.heap.size < w.heap.size + 1 := by omega
  clear hW hb
  refine (dright_any A c s xs x _ (L1.out.get (A := A) (c := c) (xs := xs) (by simp)) false HQ.out lx.out).mono ?_
  rintro e w2 ⟨rfl, hb⟩
  have L2 := ls L1 hb
  have Rx_2 := co Rx_1 hb
  have Ry_2 := co Ry_1 hb
  clear hb 
  go_wp2
  go_ret
  exact ⟨rfl, L2.out.1⟩

set_option maxHeartbeats 4000000 in
set_option maxRecDepth 100000 in
theorem dcmp_no2 (A B : Option Addr) (c d : Nat) (s r : Bool) (xs ys : List Nat) (x y : Int) (w : World) (h : Dg w A c xs) (h' : Dg w B d ys) (hl : xs.length ≤ 9223372036854775807) (hl' : ys.length ≤ 9223372036854775807) (hq : dyR s xs x = true) (hp : dyR r ys y = false):
    Calls Tryd.prog 19 #[.agg #[.bool s, .slice A xs.length c, .int .i64 x], .agg #[.bool r, .slice B ys.length d, .int .i64 y]] w fun e w' => e = .returned (.int .i64 0) ∧ Below w.heap.size w w' := by
  have lx := Lib.hid hl
  have ly := Lib.hid hl'
  have HQ := Lib.hid hq
  have HP := Lib.hid hp
  have L0 := Lib.hid (((live_start w).add h).add h')
  clear h h' hl hl' hq hp
  go_enter Tryd.func19, Tryd.ntmps19
  go_wp2_with fail
  obtain ⟨v1, hW, hb, Rx_1, Ry_1⟩ := new2 w (.cells #[.bool s, .slice A xs.length c, .int .i64 x] 26) (.cells #[.bool r, .slice B ys.length d, .int .i64 y] 26)
  rw [← hW]
  have L1 := ls L0 hb
  have Gx := gl0 L0.out
  have Gy := gl1 L0.out
  have Nxy : w.heap.size < w.heap.size + 1 := by omega
  clear hW hb
  refine (dright_any A c s xs x _ (L1.out.get (A := A) (c := c) (xs := xs) (by simp)) true HQ.out lx.out).mono ?_
  rintro e w2 ⟨rfl, hb⟩
  have L2 := ls L1 hb
  have Rx_2 := co Rx_1 hb
  have Ry_2 := co Ry_1 hb
  clear hb 
  obtain ⟨fy0, zy0, fy1, zy1, fy2, zy2, xy⟩ := ly3 Ry_2.out
  go_wp2_with fail
  refine (dright_any B d r ys y _ (L2.out.get (A := B) (c := d) (xs := ys) (by simp)) false HP.out ly.out).mono ?_
  rintro e w3 ⟨rfl, hb⟩
  have L3 := ls L2 hb
  clear fy0 zy0 fy1 zy1 fy2 zy2 xy
  have Rx_3 := co Rx_2 hb
  have Ry_3 := co Ry_2 hb
  clear hb 
  go_wp2
  go_ret
  exact ⟨rfl, L3.out.1⟩

theorem dcmp_no {A B : Option Addr} {c d : Nat} {s r : Bool} {xs ys : List Nat} {x y : Int} {w : World} (h : Dg w A c xs) (h' : Dg w B d ys) (hl : xs.length ≤ 9223372036854775807) (hl' : ys.length ≤ 9223372036854775807) (hq : (dyR s xs x && dyR r ys y) = false) :
    Calls Tryd.prog 19 #[.agg #[.bool s, .slice A xs.length c, .int .i64 x], .agg #[.bool r, .slice B ys.length d, .int .i64 y]] w fun e w' => e = .returned (.int .i64 0) ∧ Below w.heap.size w w' := by
  rcases hx : dyR s xs x with _ | _
  · exact dcmp_no1 A B c d s r xs ys x y w h h' hl hl' hx
  · rw [hx, Bool.true_and] at hq
    exact dcmp_no2 A B c d s r xs ys x y w h h' hl hl' hx hq
end Go.Proofs.YtaciohjobenipaaDoor
end

section
/-
  Operations under a guard, in a region whose operands come in whatever order.
-/
namespace Go.Proofs.YtaciohjobenipaaDoor
open Go.RowKit
theorem ite_yes {c : Prop} [Decidable c] {a b : Prop} (hc : c) (ha : a) : if c then a else b := by rw [if_pos hc]; exact ha
theorem ite_not {c : Prop} [Decidable c] {a b : Prop} (hc : ¬ c) (hb : b) : if c then a else b := by rw [if_neg hc]; exact hb
theorem yielded_of {ops : Array Oper} {tmps : Array Value} {j : Nat} {t : Tmp} {b : Bool} (h1 : (ops[j]?).bind (·.dst) = some t) (h2 : tmps.getD t undef = .bool b) : yielded ops tmps j = some b := by
  unfold yielded
  rw [h1]
  simp only [Option.bind_some]
  rcases h : tmps[t]? with _ | v
  · rw [Array.getD_eq_getD_getElem?, h] at h2; cases h2
  · rw [Array.getD_eq_getD_getElem?, h] at h2
    simp only [Option.getD_some] at h2
    rw [h2]
theorem yielded_none {ops : Array Oper} {tmps : Array Value} {j : Nat} {t : Tmp} (h1 : (ops[j]?).bind (·.dst) = some t) (h2 : tmps.getD t undef = undef) : yielded ops tmps j = none := by
  unfold yielded
  rw [h1]
  simp only [Option.bind_some]
  rcases h : tmps[t]? with _ | v
  · rfl
  · rw [Array.getD_eq_getD_getElem?, h] at h2
    simp only [Option.getD_some] at h2
    rw [h2]; rfl
theorem wanted_none {o : Oper} {f : Nat → Option Bool} {j : Nat} {b : Bool} (hg : o.guard = some (j, b)) (hf : f j = none) : ¬ Region.wanted o f = true := by
  simp [Region.wanted, hg, hf]
theorem wanted_yes {o : Oper} {f : Nat → Option Bool} {j : Nat} {b : Bool} (hg : o.guard = some (j, b)) (hf : f j = some b) : Region.wanted o f = true := by
  simp [Region.wanted, hg, hf]
theorem wanted_not {o : Oper} {f : Nat → Option Bool} {j : Nat} {b : Bool} (hg : o.guard = some (j, b)) (hf : f j = some (!b)) : ¬ Region.wanted o f = true := by
  cases b <;> simp [Region.wanted, hg, hf]
end Go.Proofs.YtaciohjobenipaaDoor
end
