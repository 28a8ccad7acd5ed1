import Derived.Test.YtijodbjdajddoaaGreatDoorMB5
import Derived.Test.YtijodbjdajddoaaGreatDoorMB2
import Derived.Test.YtijodbjdajddoaaGreatDoorMB1
import Derived.Test.YtijodbjdajddoaaGreatDoorMB4
import Derived.Test.YtijodbjdajddoaaGreatDoorRows
import Derived.Test.YtijodbjdajddoaaGreatDoorMB0
import Derived.WalkKit
import Derived.ProofKit
import Derived.OpenShut
import Derived.ChangeSame
import Derived.LaidMore
import Derived.Stop.Joined
import Derived.Stop.LaidErr
import Derived.Lib.SmallJoins
section
/-
  ref05: Cmp.
-/
namespace Go.Proofs.YtijodbjdajddoaaGreatDoor
open Go.RowKit
set_option linter.unusedSimpArgs false
set_option linter.unusedVariables false
theorem rzcmp_j {A B : Option Addr} {c d : Nat} {s r : Bool} {xs ys : List Nat} {x y q : Int} {w : World} (h : Dg w A c xs) (h' : Dg w B d ys) (hx : sg s (val xs) = x) (hy : sg r (val ys) = y) (hl : xs.length ≤ 1000000) (hl' : ys.length ≤ 1000000) (hq : Int.sign (x - y) = q) :
    Calls Tryz.prog 70 #[.agg #[.bool s, .slice A xs.length c], .agg #[.bool r, .slice B ys.length d]] w fun e w' => e = .returned (.int .i64 q) ∧ Below w.heap.size w w' := by
  subst hq hx hy; exact rzcmp_any A B c d s r xs ys w h h' hl hl'
theorem cmp_sign {m x n y : Int} (h : (m < 0 ∧ 0 ≤ n) ∨ (0 ≤ m ∧ n < 0) ∨ (m = 0 ∧ 0 ≤ n) ∨ (0 ≤ m ∧ n = 0)) : Int.sign (m - n) = cmpd (dv m x) (dv n y) := by
  have a := sign_three m
  have b := sign_three n
  have c := sign_three (m - n)
  rcases Int.lt_trichotomy (Int.sign m) (Int.sign n) with hc | hc | hc
  · rw [cmp_less hc]; omega
  · have hm : m = 0 := by omega
    have hn : n = 0 := by omega
    subst hm hn
    rw [dv_zero, dv_zero, cmpd_eq rfl]; rfl
  · rw [cmp_more hc]; omega
theorem cmp_sz {m x n y : Int} (hs : Int.sign m = Int.sign n) (hx : Nf m x) (hy : Nf n y) (h : x + bl m ≠ y + bl n) : (if decide (x + bl m < y + bl n) == decide (m < 0) then (1 : Int) else -1) = cmpd (dv m x) (dv n y) ∨ m = 0 := by
  by_cases m0 : m = 0
  · exact .inr m0
  · left
    have key := cmp_same hs hx hy
    have a := sign_three m
    unfold agq at key
    by_cases h1 : x + bl m < y + bl n
    · rw [if_pos h1] at key
      rw [decide_eq_true h1]
      by_cases h2 : m < 0
      · rw [decide_eq_true h2, ← key, show Int.sign m = -1 by omega]; rfl
      · rw [decide_eq_false h2, ← key, show Int.sign m = 1 by omega]; rfl
    · rw [if_neg h1, if_pos (show y + bl n < x + bl m by omega)] at key
      rw [decide_eq_false h1]
      by_cases h2 : m < 0
      · rw [decide_eq_true h2, ← key, show Int.sign m = -1 by omega]; rfl
      · rw [decide_eq_false h2, ← key, show Int.sign m = 1 by omega]; rfl
theorem cmp_up {m x n y e0 p q : Int} (he : min x y = e0) (hp : upto m x e0 = p) (hq : upto n y e0 = q) : Int.sign (p - q) = cmpd (dv m x) (dv n y) := by
  rw [← dv_upto (m := m) (show e0 ≤ x by omega), ← dv_upto (m := n) (show e0 ≤ y by omega), hp, hq, cmpd_same]
  have a := sign_three (p - q)
  split
  · omega
  · split <;> omega
theorem sg_of (b : Bool) {m : Int} (h : decide (m < 0) = b) : sg b (val (digs m.natAbs)) = m := by
  rw [val_digs, ← h]; exact sg_dz' m

theorem r5lift_any {A B : Option Addr} {c d : Nat} {m n x y p q e0 : Int} {w : World} (h : Dg w A c (digs m.natAbs)) (h' : Dg w B d (digs n.natAbs)) (hl : (digs m.natAbs).length ≤ 10000) (hl' : (digs n.natAbs).length ≤ 10000) (x0 : -131072 ≤ x) (x1 : x ≤ 131072) (y0 : -131072 ≤ y) (y1 : y ≤ 131072) (m0 : m ≠ 0) (n0 : n ≠ 0) (he : min x y = e0) (hp : upto m x e0 = p) (hq : upto n y e0 = q) :
    Calls Tryz.prog 72 #[.agg #[.bool (decide (m < 0)), .slice A (digs m.natAbs).length c, .int .i64 x], .agg #[.bool (decide (n < 0)), .slice B (digs n.natAbs).length d, .int .i64 y]] w fun e w' => Ybs p q e0 w e w' := by
  by_cases hc : y < x
  · exact r5lift_gt A B c d m n x y w h h' hl hl' x0 x1 y0 y1 m0 n0 he hp hq hc
  · exact r5lift_le A B c d m n x y w h h' hl hl' x0 x1 y0 y1 m0 n0 he hp hq (by omega)

set_option maxHeartbeats 4000000 in
set_option maxRecDepth 100000 in
theorem r5cmp_ff_z1 (A B : Option Addr) (c d : Nat) (m n x y : Int) (w : World) (h : Dg w A c (digs m.natAbs)) (h' : Dg w B d (digs n.natAbs)) (hl : (digs m.natAbs).length ≤ 10000) (hl' : (digs n.natAbs).length ≤ 10000) (r1 : Rt m x) (r2 : Rt n y) (hs : decide (m < 0) = false) (hr : decide (n < 0) = false) {q : Int} (hq : cmpd (dv m x) (dv n y) = q) (m0 : m = 0):
    Calls Tryz.prog 38 #[.agg #[.bool false, .slice A (digs m.natAbs).length c, .int .i64 x], .agg #[.bool false, .slice B (digs n.natAbs).length d, .int .i64 y]] w fun e w' => e = .returned (.int .i64 q) ∧ Below w.heap.size w w' := by
  have x0 := r1.2.1
  have x1 := r1.2.2
  have y0 := r2.2.1
  have y1 := r2.2.2
  have dx := fun (W : World) (hW : Dg W A c (digs m.natAbs)) => r5right_t (w := W) hW hl r1
  have dy := fun (W : World) (hW : Dg W B d (digs n.natAbs)) => r5right_t (w := W) hW hl' r2
  simp only [hs] at dx
  simp only [hr] at dy
  have DX := Lib.hid dx
  have DY := Lib.hid dy
  have lx := Lib.hid hl
  have ly := Lib.hid hl'
  have SX := Lib.hid (sg_of _ hs)
  have SY := Lib.hid (sg_of _ hr)
  have t1 : ((((digs m.natAbs).length : Nat) : Int) == 0) = true := by rw [m0, show digs (0 : Int).natAbs = [] from digs_zero]; rfl
  have HQ := Lib.hid (show Int.sign (m - n) = q by rw [← hq]; exact cmp_sign (by simp at hs hr; omega))
  have L0 := Lib.hid (((live_start w).add h).add h')
  clear h h' hl hl' r1 r2 dx dy hs hr hq m0
  go_enter Tryz.func38, Tryz.ntmps38
  go_wp2_with fail
  obtain ⟨v1, hW, hb, Rx_1, Ry_1⟩ := new2 w (.cells #[.bool false, .slice A (digs m.natAbs).length c, .int .i64 x] 26) (.cells #[.bool false, .slice B (digs n.natAbs).length d, .int .i64 y] 26)
  rw [← hW]
  have L1 := ls L0 hb
  have Gx := gl0 L0.out
  have Gy := gl1 L0.out
  have Nxy : w.heap.size < w.heap.size + 1 := by omega
  clear hW hb
  refine (DX.out _ (L1.out.get (A := A) (c := c) (xs := digs m.natAbs) (by simp))).mono ?_
  rintro e w2 ⟨rfl, hb⟩
  have L2 := ls L1 hb
  have Rx_2 := co Rx_1 hb
  have Ry_2 := co Ry_1 hb
  clear hb 
  obtain ⟨fx0, zx0, fx1, zx1, fx2, zx2, xx⟩ := ly3 Rx_2.out
  obtain ⟨fy0, zy0, fy1, zy1, fy2, zy2, xy⟩ := ly3 Ry_2.out
  go_wp2_with fail
  refine (DY.out _ (L2.out.get (A := B) (c := d) (xs := digs n.natAbs) (by simp))).mono ?_
  rintro e w3 ⟨rfl, hb⟩
  have L3 := ls L2 hb
  clear fx0 zx0 fx1 zx1 fx2 zx2 xx fy0 zy0 fy1 zy1 fy2 zy2 xy
  have Rx_3 := co Rx_2 hb
  have Ry_3 := co Ry_2 hb
  clear hb 
  obtain ⟨fx0, zx0, fx1, zx1, fx2, zx2, xx⟩ := ly3 Rx_3.out
  obtain ⟨fy0, zy0, fy1, zy1, fy2, zy2, xy⟩ := ly3 Ry_3.out
  go_wp2_with fail
  refine (rzcmp_j (L3.out.get (A := A) (c := c) (xs := digs m.natAbs) (by simp)) (L3.out.get (A := B) (c := d) (xs := digs n.natAbs) (by simp)) SX.out SY.out (Nat.le_trans lx.out (by omega)) (Nat.le_trans ly.out (by omega)) HQ.out).mono ?_
  rintro e w4 ⟨rfl, hb⟩
  have L4 := ls L3 hb
  clear fx0 zx0 fx1 zx1 fx2 zx2 xx fy0 zy0 fy1 zy1 fy2 zy2 xy
  have Rx_4 := co Rx_3 hb
  have Ry_4 := co Ry_3 hb
  clear hb 
  go_wp2
  go_ret
  exact ⟨rfl, L4.out.1⟩

set_option maxHeartbeats 4000000 in
set_option maxRecDepth 100000 in
theorem r5cmp_ff_z2 (A B : Option Addr) (c d : Nat) (m n x y : Int) (w : World) (h : Dg w A c (digs m.natAbs)) (h' : Dg w B d (digs n.natAbs)) (hl : (digs m.natAbs).length ≤ 10000) (hl' : (digs n.natAbs).length ≤ 10000) (r1 : Rt m x) (r2 : Rt n y) (hs : decide (m < 0) = false) (hr : decide (n < 0) = false) {q : Int} (hq : cmpd (dv m x) (dv n y) = q) (m0 : m ≠ 0) (n0 : n = 0):
    Calls Tryz.prog 38 #[.agg #[.bool false, .slice A (digs m.natAbs).length c, .int .i64 x], .agg #[.bool false, .slice B (digs n.natAbs).length d, .int .i64 y]] w fun e w' => e = .returned (.int .i64 q) ∧ Below w.heap.size w w' := by
  have x0 := r1.2.1
  have x1 := r1.2.2
  have y0 := r2.2.1
  have y1 := r2.2.2
  have dx := fun (W : World) (hW : Dg W A c (digs m.natAbs)) => r5right_t (w := W) hW hl r1
  have dy := fun (W : World) (hW : Dg W B d (digs n.natAbs)) => r5right_t (w := W) hW hl' r2
  simp only [hs] at dx
  simp only [hr] at dy
  have DX := Lib.hid dx
  have DY := Lib.hid dy
  have lx := Lib.hid hl
  have ly := Lib.hid hl'
  have SX := Lib.hid (sg_of _ hs)
  have SY := Lib.hid (sg_of _ hr)
  have t1 : ((((digs m.natAbs).length : Nat) : Int) == 0) = false := beq_eq_false_iff_ne.2 (fun e => m0 (by have := digs_nil.1 (show (digs m.natAbs).length = 0 by omega); omega))
  have t2 : ((((digs n.natAbs).length : Nat) : Int) == 0) = true := by rw [n0, show digs (0 : Int).natAbs = [] from digs_zero]; rfl
  have HQ := Lib.hid (show Int.sign (m - n) = q by rw [← hq]; exact cmp_sign (by simp at hs hr; omega))
  have L0 := Lib.hid (((live_start w).add h).add h')
  clear h h' hl hl' r1 r2 dx dy hs hr hq m0 n0
  go_enter Tryz.func38, Tryz.ntmps38
  go_wp2_with fail
  obtain ⟨v1, hW, hb, Rx_1, Ry_1⟩ := new2 w (.cells #[.bool false, .slice A (digs m.natAbs).length c, .int .i64 x] 26) (.cells #[.bool false, .slice B (digs n.natAbs).length d, .int .i64 y] 26)
  rw [← hW]
  have L1 := ls L0 hb
  have Gx := gl0 L0.out
  have Gy := gl1 L0.out
  have Nxy : w.heap.size < w.heap.size + 1 := by omega
  clear hW hb
  refine (DX.out _ (L1.out.get (A := A) (c := c) (xs := digs m.natAbs) (by simp))).mono ?_
  rintro e w2 ⟨rfl, hb⟩
  have L2 := ls L1 hb
  have Rx_2 := co Rx_1 hb
  have Ry_2 := co Ry_1 hb
  clear hb 
  obtain ⟨fx0, zx0, fx1, zx1, fx2, zx2, xx⟩ := ly3 Rx_2.out
  obtain ⟨fy0, zy0, fy1, zy1, fy2, zy2, xy⟩ := ly3 Ry_2.out
  go_wp2_with fail
  refine (DY.out _ (L2.out.get (A := B) (c := d) (xs := digs n.natAbs) (by simp))).mono ?_
  rintro e w3 ⟨rfl, hb⟩
  have L3 := ls L2 hb
  clear fx0 zx0 fx1 zx1 fx2 zx2 xx fy0 zy0 fy1 zy1 fy2 zy2 xy
  have Rx_3 := co Rx_2 hb
  have Ry_3 := co Ry_2 hb
  clear hb 
  obtain ⟨fx0, zx0, fx1, zx1, fx2, zx2, xx⟩ := ly3 Rx_3.out
  obtain ⟨fy0, zy0, fy1, zy1, fy2, zy2, xy⟩ := ly3 Ry_3.out
  go_wp2_with fail
  refine (rzcmp_j (L3.out.get (A := A) (c := c) (xs := digs m.natAbs) (by simp)) (L3.out.get (A := B) (c := d) (xs := digs n.natAbs) (by simp)) SX.out SY.out (Nat.le_trans lx.out (by omega)) (Nat.le_trans ly.out (by omega)) HQ.out).mono ?_
  rintro e w4 ⟨rfl, hb⟩
  have L4 := ls L3 hb
  clear fx0 zx0 fx1 zx1 fx2 zx2 xx fy0 zy0 fy1 zy1 fy2 zy2 xy
  have Rx_4 := co Rx_3 hb
  have Ry_4 := co Ry_3 hb
  clear hb 
  go_wp2
  go_ret
  exact ⟨rfl, L4.out.1⟩

set_option maxHeartbeats 4000000 in
set_option maxRecDepth 100000 in
theorem r5cmp_ff_lt (A B : Option Addr) (c d : Nat) (m n x y : Int) (w : World) (h : Dg w A c (digs m.natAbs)) (h' : Dg w B d (digs n.natAbs)) (hl : (digs m.natAbs).length ≤ 10000) (hl' : (digs n.natAbs).length ≤ 10000) (r1 : Rt m x) (r2 : Rt n y) (hs : decide (m < 0) = false) (hr : decide (n < 0) = false) {q : Int} (hq : cmpd (dv m x) (dv n y) = q) (m0 : m ≠ 0) (n0 : n ≠ 0) (hc : x + bl m < y + bl n):
    Calls Tryz.prog 38 #[.agg #[.bool false, .slice A (digs m.natAbs).length c, .int .i64 x], .agg #[.bool false, .slice B (digs n.natAbs).length d, .int .i64 y]] w fun e w' => e = .returned (.int .i64 q) ∧ Below w.heap.size w w' := by
  have x0 := r1.2.1
  have x1 := r1.2.2
  have y0 := r2.2.1
  have y1 := r2.2.2
  have dx := fun (W : World) (hW : Dg W A c (digs m.natAbs)) => r5right_t (w := W) hW hl r1
  have dy := fun (W : World) (hW : Dg W B d (digs n.natAbs)) => r5right_t (w := W) hW hl' r2
  simp only [hs] at dx
  simp only [hr] at dy
  have DX := Lib.hid dx
  have DY := Lib.hid dy
  have lx := Lib.hid hl
  have ly := Lib.hid hl'
  have SX := Lib.hid (sg_of _ hs)
  have SY := Lib.hid (sg_of _ hr)
  have t1 : ((((digs m.natAbs).length : Nat) : Int) == 0) = false := beq_eq_false_iff_ne.2 (fun e => m0 (by have := digs_nil.1 (show (digs m.natAbs).length = 0 by omega); omega))
  have t2 : ((((digs n.natAbs).length : Nat) : Int) == 0) = false := beq_eq_false_iff_ne.2 (fun e => n0 (by have := digs_nil.1 (show (digs n.natAbs).length = 0 by omega); omega))
  have hsn : Int.sign m = Int.sign n := by have a := sign_three m; have b := sign_three n; simp at hs hr; omega
  have hz := cmp_sz hsn r1.1 r2.1 (by omega)
  rw [hq, hs, decide_eq_true (show  x + bl m < y + bl n by omega)] at hz
  obtain rfl : q = (-1) := by
    rcases hz with h1 | h1
    · rw [← h1]; rfl
    · exact absurd h1 m0
  obtain ⟨s1, hs1⟩ : ∃ v : Int, x + bl m = v := ⟨_, rfl⟩
  obtain ⟨s2, hs2⟩ : ∃ v : Int, y + bl n = v := ⟨_, rfl⟩
  rw [hs1, hs2] at hc
  have sx := fun (W : World) (hW : Dg W A c (digs m.natAbs)) => r5size_any A c m x s1 W hW (Nat.le_trans hl (by omega)) (by omega) (by omega) hs1
  have sy := fun (W : World) (hW : Dg W B d (digs n.natAbs)) => r5size_any B d n y s2 W hW (Nat.le_trans hl' (by omega)) (by omega) (by omega) hs2
  simp only [hs] at sx
  simp only [hr] at sy
  have ZX := Lib.hid sx
  have ZY := Lib.hid sy
  have d0 : (s1 == s2) = false := by simp; omega
  have d0' : (s1 != s2) = true := by simp; omega
  have d1 : decide (s1 < s2) = true := by simp; omega
  have L0 := Lib.hid (((live_start w).add h).add h')
  clear h h' hl hl' r1 r2 dx dy hs hr hq hsn hz m0 n0 hc hs1 hs2 sx sy
  go_enter Tryz.func38, Tryz.ntmps38
  go_wp2_with fail
  obtain ⟨v1, hW, hb, Rx_1, Ry_1⟩ := new2 w (.cells #[.bool false, .slice A (digs m.natAbs).length c, .int .i64 x] 26) (.cells #[.bool false, .slice B (digs n.natAbs).length d, .int .i64 y] 26)
  rw [← hW]
  have L1 := ls L0 hb
  have Gx := gl0 L0.out
  have Gy := gl1 L0.out
  have Nxy : w.heap.size < w.heap.size + 1 := by omega
  clear hW hb
  refine (DX.out _ (L1.out.get (A := A) (c := c) (xs := digs m.natAbs) (by simp))).mono ?_
  rintro e w2 ⟨rfl, hb⟩
  have L2 := ls L1 hb
  have Rx_2 := co Rx_1 hb
  have Ry_2 := co Ry_1 hb
  clear hb 
  obtain ⟨fx0, zx0, fx1, zx1, fx2, zx2, xx⟩ := ly3 Rx_2.out
  obtain ⟨fy0, zy0, fy1, zy1, fy2, zy2, xy⟩ := ly3 Ry_2.out
  go_wp2_with fail
  refine (DY.out _ (L2.out.get (A := B) (c := d) (xs := digs n.natAbs) (by simp))).mono ?_
  rintro e w3 ⟨rfl, hb⟩
  have L3 := ls L2 hb
  clear fx0 zx0 fx1 zx1 fx2 zx2 xx fy0 zy0 fy1 zy1 fy2 zy2 xy
  have Rx_3 := co Rx_2 hb
  have Ry_3 := co Ry_2 hb
  clear hb 
  obtain ⟨fx0, zx0, fx1, zx1, fx2, zx2, xx⟩ := ly3 Rx_3.out
  obtain ⟨fy0, zy0, fy1, zy1, fy2, zy2, xy⟩ := ly3 Ry_3.out
  go_wp2_with fail
  clear fx0 zx0 fx1 zx1 fx2 zx2 xx fy0 zy0 fy1 zy1 fy2 zy2 xy
  obtain ⟨fx0, zx0, fx1, zx1, fx2, zx2, xx⟩ := ly3 Rx_3.out
  obtain ⟨fy0, zy0, fy1, zy1, fy2, zy2, xy⟩ := ly3 Ry_3.out
  have KD := Lib.hid (bd0 w3)
  have LD := ls L3 KD.out
  go_region_held3 (fun w' => ∀ b o, b < w3.heap.size → w'.cell? ⟨b, o, none⟩ = w3.cell? ⟨b, o, none⟩)
    (first | with_reducible exact (bcell KD.out).1 | with_reducible exact (bcell K5.out).1 | with_reducible exact (bcell K6.out).1)
    (first
      | (go_at_call_of 71 A; (with_reducible refine (ZX.out _ (LD.out.get (A := A) (c := c) (xs := digs m.natAbs) (by simp))).mono ?_); rintro e w5 ⟨rfl, hb⟩; (have K5 := bt KD hb); (have L5 := Lib.hid (LD.out.step hb)); clear hb )
      | (go_at_call_of 71 B; (with_reducible refine (ZY.out _ (L5.out.get (A := B) (c := d) (xs := digs n.natAbs) (by simp))).mono ?_); rintro e w6 ⟨rfl, hb⟩; (have K6 := bt K5 hb); (have L6 := Lib.hid (L5.out.step hb)); clear hb ))
  rename_i hHeld
  clear hHeld
  clear fx0 zx0 fx1 zx1 fx2 zx2 xx fy0 zy0 fy1 zy1 fy2 zy2 xy
  have Rx_6 := co Rx_3 K6.out
  have Ry_6 := co Ry_3 K6.out
  clear KD LD
  obtain ⟨fx0, zx0, fx1, zx1, fx2, zx2, xx⟩ := ly3 Rx_6.out
  obtain ⟨fy0, zy0, fy1, zy1, fy2, zy2, xy⟩ := ly3 Ry_6.out
  go_wp2_with fail
  clear fx0 zx0 fx1 zx1 fx2 zx2 xx fy0 zy0 fy1 zy1 fy2 zy2 xy
  obtain ⟨fx0, zx0, fx1, zx1, fx2, zx2, xx⟩ := ly3 Rx_6.out
  obtain ⟨fy0, zy0, fy1, zy1, fy2, zy2, xy⟩ := ly3 Ry_6.out
  have KD := Lib.hid (bd0 w6)
  have LD := ls L6 KD.out
  go_region_held3 (fun w' => ∀ b o, b < w6.heap.size → w'.cell? ⟨b, o, none⟩ = w6.cell? ⟨b, o, none⟩)
    (first | with_reducible exact (bcell KD.out).1 | with_reducible exact (bcell K8.out).1 | with_reducible exact (bcell K9.out).1)
    (first
      | (go_at_call_of 71 A; (with_reducible refine (ZX.out _ (LD.out.get (A := A) (c := c) (xs := digs m.natAbs) (by simp))).mono ?_); rintro e w8 ⟨rfl, hb⟩; (have K8 := bt KD hb); (have L8 := Lib.hid (LD.out.step hb)); clear hb )
      | (go_at_call_of 71 B; (with_reducible refine (ZY.out _ (L8.out.get (A := B) (c := d) (xs := digs n.natAbs) (by simp))).mono ?_); rintro e w9 ⟨rfl, hb⟩; (have K9 := bt K8 hb); (have L9 := Lib.hid (L8.out.step hb)); clear hb ))
  rename_i hHeld
  clear hHeld
  clear fx0 zx0 fx1 zx1 fx2 zx2 xx fy0 zy0 fy1 zy1 fy2 zy2 xy
  have Rx_9 := co Rx_6 K9.out
  have Ry_9 := co Ry_6 K9.out
  clear KD LD
  go_wp2
  go_ret
  exact ⟨rfl, L9.out.1⟩

set_option maxHeartbeats 4000000 in
set_option maxRecDepth 100000 in
theorem r5cmp_ff_gt (A B : Option Addr) (c d : Nat) (m n x y : Int) (w : World) (h : Dg w A c (digs m.natAbs)) (h' : Dg w B d (digs n.natAbs)) (hl : (digs m.natAbs).length ≤ 10000) (hl' : (digs n.natAbs).length ≤ 10000) (r1 : Rt m x) (r2 : Rt n y) (hs : decide (m < 0) = false) (hr : decide (n < 0) = false) {q : Int} (hq : cmpd (dv m x) (dv n y) = q) (m0 : m ≠ 0) (n0 : n ≠ 0) (hc : y + bl n < x + bl m):
    Calls Tryz.prog 38 #[.agg #[.bool false, .slice A (digs m.natAbs).length c, .int .i64 x], .agg #[.bool false, .slice B (digs n.natAbs).length d, .int .i64 y]] w fun e w' => e = .returned (.int .i64 q) ∧ Below w.heap.size w w' := by
  have x0 := r1.2.1
  have x1 := r1.2.2
  have y0 := r2.2.1
  have y1 := r2.2.2
  have dx := fun (W : World) (hW : Dg W A c (digs m.natAbs)) => r5right_t (w := W) hW hl r1
  have dy := fun (W : World) (hW : Dg W B d (digs n.natAbs)) => r5right_t (w := W) hW hl' r2
  simp only [hs] at dx
  simp only [hr] at dy
  have DX := Lib.hid dx
  have DY := Lib.hid dy
  have lx := Lib.hid hl
  have ly := Lib.hid hl'
  have SX := Lib.hid (sg_of _ hs)
  have SY := Lib.hid (sg_of _ hr)
  have t1 : ((((digs m.natAbs).length : Nat) : Int) == 0) = false := beq_eq_false_iff_ne.2 (fun e => m0 (by have := digs_nil.1 (show (digs m.natAbs).length = 0 by omega); omega))
  have t2 : ((((digs n.natAbs).length : Nat) : Int) == 0) = false := beq_eq_false_iff_ne.2 (fun e => n0 (by have := digs_nil.1 (show (digs n.natAbs).length = 0 by omega); omega))
  have hsn : Int.sign m = Int.sign n := by have a := sign_three m; have b := sign_three n; simp at hs hr; omega
  have hz := cmp_sz hsn r1.1 r2.1 (by omega)
  rw [hq, hs, decide_eq_false (show ¬ x + bl m < y + bl n by omega)] at hz
  obtain rfl : q = 1 := by
    rcases hz with h1 | h1
    · rw [← h1]; rfl
    · exact absurd h1 m0
  obtain ⟨s1, hs1⟩ : ∃ v : Int, x + bl m = v := ⟨_, rfl⟩
  obtain ⟨s2, hs2⟩ : ∃ v : Int, y + bl n = v := ⟨_, rfl⟩
  rw [hs1, hs2] at hc
  have sx := fun (W : World) (hW : Dg W A c (digs m.natAbs)) => r5size_any A c m x s1 W hW (Nat.le_trans hl (by omega)) (by omega) (by omega) hs1
  have sy := fun (W : World) (hW : Dg W B d (digs n.natAbs)) => r5size_any B d n y s2 W hW (Nat.le_trans hl' (by omega)) (by omega) (by omega) hs2
  simp only [hs] at sx
  simp only [hr] at sy
  have ZX := Lib.hid sx
  have ZY := Lib.hid sy
  have d0 : (s1 == s2) = false := by simp; omega
  have d0' : (s1 != s2) = true := by simp; omega
  have d1 : decide (s1 < s2) = false := by simp; omega
  have L0 := Lib.hid (((live_start w).add h).add h')
  clear h h' hl hl' r1 r2 dx dy hs hr hq hsn hz m0 n0 hc hs1 hs2 sx sy
  go_enter Tryz.func38, Tryz.ntmps38
  go_wp2_with fail
  obtain ⟨v1, hW, hb, Rx_1, Ry_1⟩ := new2 w (.cells #[.bool false, .slice A (digs m.natAbs).length c, .int .i64 x] 26) (.cells #[.bool false, .slice B (digs n.natAbs).length d, .int .i64 y] 26)
  rw [← hW]
  have L1 := ls L0 hb
  have Gx := gl0 L0.out
  have Gy := gl1 L0.out
  have Nxy : w.heap.size < w.heap.size + 1 := by omega
  clear hW hb
  refine (DX.out _ (L1.out.get (A := A) (c := c) (xs := digs m.natAbs) (by simp))).mono ?_
  rintro e w2 ⟨rfl, hb⟩
  have L2 := ls L1 hb
  have Rx_2 := co Rx_1 hb
  have Ry_2 := co Ry_1 hb
  clear hb 
  obtain ⟨fx0, zx0, fx1, zx1, fx2, zx2, xx⟩ := ly3 Rx_2.out
  obtain ⟨fy0, zy0, fy1, zy1, fy2, zy2, xy⟩ := ly3 Ry_2.out
  go_wp2_with fail
  refine (DY.out _ (L2.out.get (A := B) (c := d) (xs := digs n.natAbs) (by simp))).mono ?_
  rintro e w3 ⟨rfl, hb⟩
  have L3 := ls L2 hb
  clear fx0 zx0 fx1 zx1 fx2 zx2 xx fy0 zy0 fy1 zy1 fy2 zy2 xy
  have Rx_3 := co Rx_2 hb
  have Ry_3 := co Ry_2 hb
  clear hb 
  obtain ⟨fx0, zx0, fx1, zx1, fx2, zx2, xx⟩ := ly3 Rx_3.out
  obtain ⟨fy0, zy0, fy1, zy1, fy2, zy2, xy⟩ := ly3 Ry_3.out
  go_wp2_with fail
  clear fx0 zx0 fx1 zx1 fx2 zx2 xx fy0 zy0 fy1 zy1 fy2 zy2 xy
  obtain ⟨fx0, zx0, fx1, zx1, fx2, zx2, xx⟩ := ly3 Rx_3.out
  obtain ⟨fy0, zy0, fy1, zy1, fy2, zy2, xy⟩ := ly3 Ry_3.out
  have KD := Lib.hid (bd0 w3)
  have LD := ls L3 KD.out
  go_region_held3 (fun w' => ∀ b o, b < w3.heap.size → w'.cell? ⟨b, o, none⟩ = w3.cell? ⟨b, o, none⟩)
    (first | with_reducible exact (bcell KD.out).1 | with_reducible exact (bcell K5.out).1 | with_reducible exact (bcell K6.out).1)
    (first
      | (go_at_call_of 71 A; (with_reducible refine (ZX.out _ (LD.out.get (A := A) (c := c) (xs := digs m.natAbs) (by simp))).mono ?_); rintro e w5 ⟨rfl, hb⟩; (have K5 := bt KD hb); (have L5 := Lib.hid (LD.out.step hb)); clear hb )
      | (go_at_call_of 71 B; (with_reducible refine (ZY.out _ (L5.out.get (A := B) (c := d) (xs := digs n.natAbs) (by simp))).mono ?_); rintro e w6 ⟨rfl, hb⟩; (have K6 := bt K5 hb); (have L6 := Lib.hid (L5.out.step hb)); clear hb ))
  rename_i hHeld
  clear hHeld
  clear fx0 zx0 fx1 zx1 fx2 zx2 xx fy0 zy0 fy1 zy1 fy2 zy2 xy
  have Rx_6 := co Rx_3 K6.out
  have Ry_6 := co Ry_3 K6.out
  clear KD LD
  obtain ⟨fx0, zx0, fx1, zx1, fx2, zx2, xx⟩ := ly3 Rx_6.out
  obtain ⟨fy0, zy0, fy1, zy1, fy2, zy2, xy⟩ := ly3 Ry_6.out
  go_wp2_with fail
  clear fx0 zx0 fx1 zx1 fx2 zx2 xx fy0 zy0 fy1 zy1 fy2 zy2 xy
  obtain ⟨fx0, zx0, fx1, zx1, fx2, zx2, xx⟩ := ly3 Rx_6.out
  obtain ⟨fy0, zy0, fy1, zy1, fy2, zy2, xy⟩ := ly3 Ry_6.out
  have KD := Lib.hid (bd0 w6)
  have LD := ls L6 KD.out
  go_region_held3 (fun w' => ∀ b o, b < w6.heap.size → w'.cell? ⟨b, o, none⟩ = w6.cell? ⟨b, o, none⟩)
    (first | with_reducible exact (bcell KD.out).1 | with_reducible exact (bcell K8.out).1 | with_reducible exact (bcell K9.out).1)
    (first
      | (go_at_call_of 71 A; (with_reducible refine (ZX.out _ (LD.out.get (A := A) (c := c) (xs := digs m.natAbs) (by simp))).mono ?_); rintro e w8 ⟨rfl, hb⟩; (have K8 := bt KD hb); (have L8 := Lib.hid (LD.out.step hb)); clear hb )
      | (go_at_call_of 71 B; (with_reducible refine (ZY.out _ (L8.out.get (A := B) (c := d) (xs := digs n.natAbs) (by simp))).mono ?_); rintro e w9 ⟨rfl, hb⟩; (have K9 := bt K8 hb); (have L9 := Lib.hid (L8.out.step hb)); clear hb ))
  rename_i hHeld
  clear hHeld
  clear fx0 zx0 fx1 zx1 fx2 zx2 xx fy0 zy0 fy1 zy1 fy2 zy2 xy
  have Rx_9 := co Rx_6 K9.out
  have Ry_9 := co Ry_6 K9.out
  clear KD LD
  go_wp2
  go_ret
  exact ⟨rfl, L9.out.1⟩

set_option maxHeartbeats 4000000 in
set_option maxRecDepth 100000 in
theorem r5cmp_ff_eq (A B : Option Addr) (c d : Nat) (m n x y : Int) (w : World) (h : Dg w A c (digs m.natAbs)) (h' : Dg w B d (digs n.natAbs)) (hl : (digs m.natAbs).length ≤ 10000) (hl' : (digs n.natAbs).length ≤ 10000) (r1 : Rt m x) (r2 : Rt n y) (hs : decide (m < 0) = false) (hr : decide (n < 0) = false) {q : Int} (hq : cmpd (dv m x) (dv n y) = q) (m0 : m ≠ 0) (n0 : n ≠ 0) (hc : x + bl m = y + bl n):
    Calls Tryz.prog 38 #[.agg #[.bool false, .slice A (digs m.natAbs).length c, .int .i64 x], .agg #[.bool false, .slice B (digs n.natAbs).length d, .int .i64 y]] w fun e w' => e = .returned (.int .i64 q) ∧ Below w.heap.size w w' := by
  have x0 := r1.2.1
  have x1 := r1.2.2
  have y0 := r2.2.1
  have y1 := r2.2.2
  have dx := fun (W : World) (hW : Dg W A c (digs m.natAbs)) => r5right_t (w := W) hW hl r1
  have dy := fun (W : World) (hW : Dg W B d (digs n.natAbs)) => r5right_t (w := W) hW hl' r2
  simp only [hs] at dx
  simp only [hr] at dy
  have DX := Lib.hid dx
  have DY := Lib.hid dy
  have lx := Lib.hid hl
  have ly := Lib.hid hl'
  have SX := Lib.hid (sg_of _ hs)
  have SY := Lib.hid (sg_of _ hr)
  have t1 : ((((digs m.natAbs).length : Nat) : Int) == 0) = false := beq_eq_false_iff_ne.2 (fun e => m0 (by have := digs_nil.1 (show (digs m.natAbs).length = 0 by omega); omega))
  have t2 : ((((digs n.natAbs).length : Nat) : Int) == 0) = false := beq_eq_false_iff_ne.2 (fun e => n0 (by have := digs_nil.1 (show (digs n.natAbs).length = 0 by omega); omega))
  obtain ⟨e0, he0⟩ : ∃ e, min x y = e := ⟨_, rfl⟩
  obtain ⟨p, hp⟩ : ∃ e, upto m x e0 = e := ⟨_, rfl⟩
  obtain ⟨t, ht⟩ : ∃ e, upto n y e0 = e := ⟨_, rfl⟩
  have HQ := Lib.hid (show Int.sign (p - t) = q by rw [← hq]; exact cmp_up he0 hp ht)
  have lp := upto_len2 (m := m) (x := x) (e0 := e0) hl (by omega)
  have lq := upto_len2 (m := n) (x := y) (e0 := e0) hl' (by omega)
  rw [hp] at lp
  rw [ht] at lq
  have LP := Lib.hid lp
  have LQ := Lib.hid lq
  have lf := fun (W : World) (h1 : Dg W A c (digs m.natAbs)) (h2 : Dg W B d (digs n.natAbs)) => r5lift_any (w := W) h1 h2 hl hl' x0 x1 y0 y1 m0 n0 he0 hp ht
  simp only [hs, hr] at lf
  have LF := Lib.hid lf
  obtain ⟨s1, hs1⟩ : ∃ v : Int, x + bl m = v := ⟨_, rfl⟩
  obtain ⟨s2, hs2⟩ : ∃ v : Int, y + bl n = v := ⟨_, rfl⟩
  rw [hs1, hs2] at hc
  have sx := fun (W : World) (hW : Dg W A c (digs m.natAbs)) => r5size_any A c m x s1 W hW (Nat.le_trans hl (by omega)) (by omega) (by omega) hs1
  have sy := fun (W : World) (hW : Dg W B d (digs n.natAbs)) => r5size_any B d n y s2 W hW (Nat.le_trans hl' (by omega)) (by omega) (by omega) hs2
  simp only [hs] at sx
  simp only [hr] at sy
  have ZX := Lib.hid sx
  have ZY := Lib.hid sy
  have d0 : (s1 == s2) = true := by simp; omega
  have d0' : (s1 != s2) = false := by simp; omega
  have L0 := Lib.hid (((live_start w).add h).add h')
  clear h h' hl hl' r1 r2 dx dy hs hr hq m0 n0 he0 hp ht lp lq lf hc hs1 hs2 sx sy
  go_enter Tryz.func38, Tryz.ntmps38
  go_wp2_with fail
  obtain ⟨v1, hW, hb, Rx_1, Ry_1⟩ := new2 w (.cells #[.bool false, .slice A (digs m.natAbs).length c, .int .i64 x] 26) (.cells #[.bool false, .slice B (digs n.natAbs).length d, .int .i64 y] 26)
  rw [← hW]
  have L1 := ls L0 hb
  have Gx := gl0 L0.out
  have Gy := gl1 L0.out
  have Nxy : w.heap.size < w.heap.size + 1 := by omega
  clear hW hb
  refine (DX.out _ (L1.out.get (A := A) (c := c) (xs := digs m.natAbs) (by simp))).mono ?_
  rintro e w2 ⟨rfl, hb⟩
  have L2 := ls L1 hb
  have Rx_2 := co Rx_1 hb
  have Ry_2 := co Ry_1 hb
  clear hb 
  obtain ⟨fx0, zx0, fx1, zx1, fx2, zx2, xx⟩ := ly3 Rx_2.out
  obtain ⟨fy0, zy0, fy1, zy1, fy2, zy2, xy⟩ := ly3 Ry_2.out
  go_wp2_with fail
  refine (DY.out _ (L2.out.get (A := B) (c := d) (xs := digs n.natAbs) (by simp))).mono ?_
  rintro e w3 ⟨rfl, hb⟩
  have L3 := ls L2 hb
  clear fx0 zx0 fx1 zx1 fx2 zx2 xx fy0 zy0 fy1 zy1 fy2 zy2 xy
  have Rx_3 := co Rx_2 hb
  have Ry_3 := co Ry_2 hb
  clear hb 
  obtain ⟨fx0, zx0, fx1, zx1, fx2, zx2, xx⟩ := ly3 Rx_3.out
  obtain ⟨fy0, zy0, fy1, zy1, fy2, zy2, xy⟩ := ly3 Ry_3.out
  go_wp2_with fail
  clear fx0 zx0 fx1 zx1 fx2 zx2 xx fy0 zy0 fy1 zy1 fy2 zy2 xy
  obtain ⟨fx0, zx0, fx1, zx1, fx2, zx2, xx⟩ := ly3 Rx_3.out
  obtain ⟨fy0, zy0, fy1, zy1, fy2, zy2, xy⟩ := ly3 Ry_3.out
  have KD := Lib.hid (bd0 w3)
  have LD := ls L3 KD.out
  go_region_held3 (fun w' => ∀ b o, b < w3.heap.size → w'.cell? ⟨b, o, none⟩ = w3.cell? ⟨b, o, none⟩)
    (first | with_reducible exact (bcell KD.out).1 | with_reducible exact (bcell K5.out).1 | with_reducible exact (bcell K6.out).1)
    (first
      | (go_at_call_of 71 A; (with_reducible refine (ZX.out _ (LD.out.get (A := A) (c := c) (xs := digs m.natAbs) (by simp))).mono ?_); rintro e w5 ⟨rfl, hb⟩; (have K5 := bt KD hb); (have L5 := Lib.hid (LD.out.step hb)); clear hb )
      | (go_at_call_of 71 B; (with_reducible refine (ZY.out _ (L5.out.get (A := B) (c := d) (xs := digs n.natAbs) (by simp))).mono ?_); rintro e w6 ⟨rfl, hb⟩; (have K6 := bt K5 hb); (have L6 := Lib.hid (L5.out.step hb)); clear hb ))
  rename_i hHeld
  clear hHeld
  clear fx0 zx0 fx1 zx1 fx2 zx2 xx fy0 zy0 fy1 zy1 fy2 zy2 xy
  have Rx_6 := co Rx_3 K6.out
  have Ry_6 := co Ry_3 K6.out
  clear KD LD
  clear d0 d0'
  obtain ⟨fx0, zx0, fx1, zx1, fx2, zx2, xx⟩ := ly3 Rx_6.out
  obtain ⟨fy0, zy0, fy1, zy1, fy2, zy2, xy⟩ := ly3 Ry_6.out
  go_wp2_with fail
  refine (LF.out _ (L6.out.get (A := A) (c := c) (xs := digs m.natAbs) (by simp)) (L6.out.get (A := B) (c := d) (xs := digs n.natAbs) (by simp))).mono ?_
  rintro e w7 ⟨A7, c7, B7, d7, rfl, hd, hd', hb⟩
  have L7 := Lib.hid (((L6.out.step hb).add hd).add hd')
  clear fx0 zx0 fx1 zx1 fx2 zx2 xx fy0 zy0 fy1 zy1 fy2 zy2 xy
  have Rx_7 := co Rx_6 hb
  have Ry_7 := co Ry_6 hb
  clear hb hd hd'
  go_wp2_with fail
  obtain ⟨w8, hW, hb, Ra_8, Rb_8⟩ := new2 w7 (.cells #[.bool (decide (p < 0)), .slice A7 (digs p.natAbs).length c7] 24) (.cells #[.bool (decide (t < 0)), .slice B7 (digs t.natAbs).length d7] 24)
  rw [← hW]
  have L8 := ls L7 hb
  have Rx_8 := co Rx_7 hb
  have Ry_8 := co Ry_7 hb
  have Ga := gl0 L7.out
  have Nxa := nl0 Rx_7.out
  have Nya := nl0 Ry_7.out
  have Gb := gl1 L7.out
  have Nxb := nl1 Rx_7.out
  have Nyb := nl1 Ry_7.out
  have Nab : w7.heap.size < w7.heap.size + 1 := by omega
  clear hW hb
  refine (rzcmp_j (L8.out.get (A := A7) (c := c7) (xs := digs p.natAbs) (by simp)) (L8.out.get (A := B7) (c := d7) (xs := digs t.natAbs) (by simp)) (sg_of _ rfl) (sg_of _ rfl) (Nat.le_trans LP.out (by omega)) (Nat.le_trans LQ.out (by omega)) HQ.out).mono ?_
  rintro e w9 ⟨rfl, hb⟩
  have L9 := ls L8 hb
  have Rx_9 := co Rx_8 hb
  have Ry_9 := co Ry_8 hb
  have Ra_9 := co Ra_8 hb
  have Rb_9 := co Rb_8 hb
  clear hb 
  go_wp2
  go_ret
  exact ⟨rfl, L9.out.1⟩

set_option maxHeartbeats 4000000 in
set_option maxRecDepth 100000 in
theorem r5cmp_ft_far (A B : Option Addr) (c d : Nat) (m n x y : Int) (w : World) (h : Dg w A c (digs m.natAbs)) (h' : Dg w B d (digs n.natAbs)) (hl : (digs m.natAbs).length ≤ 10000) (hl' : (digs n.natAbs).length ≤ 10000) (r1 : Rt m x) (r2 : Rt n y) (hs : decide (m < 0) = false) (hr : decide (n < 0) = true) {q : Int} (hq : cmpd (dv m x) (dv n y) = q):
    Calls Tryz.prog 38 #[.agg #[.bool false, .slice A (digs m.natAbs).length c, .int .i64 x], .agg #[.bool true, .slice B (digs n.natAbs).length d, .int .i64 y]] w fun e w' => e = .returned (.int .i64 q) ∧ Below w.heap.size w w' := by
  have x0 := r1.2.1
  have x1 := r1.2.2
  have y0 := r2.2.1
  have y1 := r2.2.2
  have dx := fun (W : World) (hW : Dg W A c (digs m.natAbs)) => r5right_t (w := W) hW hl r1
  have dy := fun (W : World) (hW : Dg W B d (digs n.natAbs)) => r5right_t (w := W) hW hl' r2
  simp only [hs] at dx
  simp only [hr] at dy
  have DX := Lib.hid dx
  have DY := Lib.hid dy
  have lx := Lib.hid hl
  have ly := Lib.hid hl'
  have SX := Lib.hid (sg_of _ hs)
  have SY := Lib.hid (sg_of _ hr)
  have HQ := Lib.hid (show Int.sign (m - n) = q by rw [← hq]; exact cmp_sign (by simp at hs hr; omega))
  have L0 := Lib.hid (((live_start w).add h).add h')
  clear h h' hl hl' r1 r2 dx dy hs hr hq
  go_enter Tryz.func38, Tryz.ntmps38
  go_wp2_with fail
  obtain ⟨v1, hW, hb, Rx_1, Ry_1⟩ := new2 w (.cells #[.bool false, .slice A (digs m.natAbs).length c, .int .i64 x] 26) (.cells #[.bool true, .slice B (digs n.natAbs).length d, .int .i64 y] 26)
  rw [← hW]
  have L1 := ls L0 hb
  have Gx := gl0 L0.out
  have Gy := gl1 L0.out
  have Nxy : w.heap.size < w.heap.size + 1 := by omega
  clear hW hb
  refine (DX.out _ (L1.out.get (A := A) (c := c) (xs := digs m.natAbs) (by simp))).mono ?_
  rintro e w2 ⟨rfl, hb⟩
  have L2 := ls L1 hb
  have Rx_2 := co Rx_1 hb
  have Ry_2 := co Ry_1 hb
  clear hb 
  obtain ⟨fx0, zx0, fx1, zx1, fx2, zx2, xx⟩ := ly3 Rx_2.out
  obtain ⟨fy0, zy0, fy1, zy1, fy2, zy2, xy⟩ := ly3 Ry_2.out
  go_wp2_with fail
  refine (DY.out _ (L2.out.get (A := B) (c := d) (xs := digs n.natAbs) (by simp))).mono ?_
  rintro e w3 ⟨rfl, hb⟩
  have L3 := ls L2 hb
  clear fx0 zx0 fx1 zx1 fx2 zx2 xx fy0 zy0 fy1 zy1 fy2 zy2 xy
  have Rx_3 := co Rx_2 hb
  have Ry_3 := co Ry_2 hb
  clear hb 
  obtain ⟨fx0, zx0, fx1, zx1, fx2, zx2, xx⟩ := ly3 Rx_3.out
  obtain ⟨fy0, zy0, fy1, zy1, fy2, zy2, xy⟩ := ly3 Ry_3.out
  go_wp2_with fail
  refine (rzcmp_j (L3.out.get (A := A) (c := c) (xs := digs m.natAbs) (by simp)) (L3.out.get (A := B) (c := d) (xs := digs n.natAbs) (by simp)) SX.out SY.out (Nat.le_trans lx.out (by omega)) (Nat.le_trans ly.out (by omega)) HQ.out).mono ?_
  rintro e w4 ⟨rfl, hb⟩
  have L4 := ls L3 hb
  clear fx0 zx0 fx1 zx1 fx2 zx2 xx fy0 zy0 fy1 zy1 fy2 zy2 xy
  have Rx_4 := co Rx_3 hb
  have Ry_4 := co Ry_3 hb
  clear hb 
  go_wp2
  go_ret
  exact ⟨rfl, L4.out.1⟩

set_option maxHeartbeats 4000000 in
set_option maxRecDepth 100000 in
theorem r5cmp_tf_far (A B : Option Addr) (c d : Nat) (m n x y : Int) (w : World) (h : Dg w A c (digs m.natAbs)) (h' : Dg w B d (digs n.natAbs)) (hl : (digs m.natAbs).length ≤ 10000) (hl' : (digs n.natAbs).length ≤ 10000) (r1 : Rt m x) (r2 : Rt n y) (hs : decide (m < 0) = true) (hr : decide (n < 0) = false) {q : Int} (hq : cmpd (dv m x) (dv n y) = q):
    Calls Tryz.prog 38 #[.agg #[.bool true, .slice A (digs m.natAbs).length c, .int .i64 x], .agg #[.bool false, .slice B (digs n.natAbs).length d, .int .i64 y]] w fun e w' => e = .returned (.int .i64 q) ∧ Below w.heap.size w w' := by
  have x0 := r1.2.1
  have x1 := r1.2.2
  have y0 := r2.2.1
  have y1 := r2.2.2
  have dx := fun (W : World) (hW : Dg W A c (digs m.natAbs)) => r5right_t (w := W) hW hl r1
  have dy := fun (W : World) (hW : Dg W B d (digs n.natAbs)) => r5right_t (w := W) hW hl' r2
  simp only [hs] at dx
  simp only [hr] at dy
  have DX := Lib.hid dx
  have DY := Lib.hid dy
  have lx := Lib.hid hl
  have ly := Lib.hid hl'
  have SX := Lib.hid (sg_of _ hs)
  have SY := Lib.hid (sg_of _ hr)
  have HQ := Lib.hid (show Int.sign (m - n) = q by rw [← hq]; exact cmp_sign (by simp at hs hr; omega))
  have L0 := Lib.hid (((live_start w).add h).add h')
  clear h h' hl hl' r1 r2 dx dy hs hr hq
  go_enter Tryz.func38, Tryz.ntmps38
  go_wp2_with fail
  obtain ⟨v1, hW, hb, Rx_1, Ry_1⟩ := new2 w (.cells #[.bool true, .slice A (digs m.natAbs).length c, .int .i64 x] 26) (.cells #[.bool false, .slice B (digs n.natAbs).length d, .int .i64 y] 26)
  rw [← hW]
  have L1 := ls L0 hb
  have Gx := gl0 L0.out
  have Gy := gl1 L0.out
  have Nxy : w.heap.size < w.heap.size + 1 := by omega
  clear hW hb
  refine (DX.out _ (L1.out.get (A := A) (c := c) (xs := digs m.natAbs) (by simp))).mono ?_
  rintro e w2 ⟨rfl, hb⟩
  have L2 := ls L1 hb
  have Rx_2 := co Rx_1 hb
  have Ry_2 := co Ry_1 hb
  clear hb 
  obtain ⟨fx0, zx0, fx1, zx1, fx2, zx2, xx⟩ := ly3 Rx_2.out
  obtain ⟨fy0, zy0, fy1, zy1, fy2, zy2, xy⟩ := ly3 Ry_2.out
  go_wp2_with fail
  refine (DY.out _ (L2.out.get (A := B) (c := d) (xs := digs n.natAbs) (by simp))).mono ?_
  rintro e w3 ⟨rfl, hb⟩
  have L3 := ls L2 hb
  clear fx0 zx0 fx1 zx1 fx2 zx2 xx fy0 zy0 fy1 zy1 fy2 zy2 xy
  have Rx_3 := co Rx_2 hb
  have Ry_3 := co Ry_2 hb
  clear hb 
  obtain ⟨fx0, zx0, fx1, zx1, fx2, zx2, xx⟩ := ly3 Rx_3.out
  obtain ⟨fy0, zy0, fy1, zy1, fy2, zy2, xy⟩ := ly3 Ry_3.out
  go_wp2_with fail
  refine (rzcmp_j (L3.out.get (A := A) (c := c) (xs := digs m.natAbs) (by simp)) (L3.out.get (A := B) (c := d) (xs := digs n.natAbs) (by simp)) SX.out SY.out (Nat.le_trans lx.out (by omega)) (Nat.le_trans ly.out (by omega)) HQ.out).mono ?_
  rintro e w4 ⟨rfl, hb⟩
  have L4 := ls L3 hb
  clear fx0 zx0 fx1 zx1 fx2 zx2 xx fy0 zy0 fy1 zy1 fy2 zy2 xy
  have Rx_4 := co Rx_3 hb
  have Ry_4 := co Ry_3 hb
  clear hb 
  go_wp2
  go_ret
  exact ⟨rfl, L4.out.1⟩

set_option maxHeartbeats 4000000 in
set_option maxRecDepth 100000 in
theorem r5cmp_tt_lt (A B : Option Addr) (c d : Nat) (m n x y : Int) (w : World) (h : Dg w A c (digs m.natAbs)) (h' : Dg w B d (digs n.natAbs)) (hl : (digs m.natAbs).length ≤ 10000) (hl' : (digs n.natAbs).length ≤ 10000) (r1 : Rt m x) (r2 : Rt n y) (hs : decide (m < 0) = true) (hr : decide (n < 0) = true) {q : Int} (hq : cmpd (dv m x) (dv n y) = q) (m0 : m ≠ 0) (n0 : n ≠ 0) (hc : x + bl m < y + bl n):
    Calls Tryz.prog 38 #[.agg #[.bool true, .slice A (digs m.natAbs).length c, .int .i64 x], .agg #[.bool true, .slice B (digs n.natAbs).length d, .int .i64 y]] w fun e w' => e = .returned (.int .i64 q) ∧ Below w.heap.size w w' := by
  have x0 := r1.2.1
  have x1 := r1.2.2
  have y0 := r2.2.1
  have y1 := r2.2.2
  have dx := fun (W : World) (hW : Dg W A c (digs m.natAbs)) => r5right_t (w := W) hW hl r1
  have dy := fun (W : World) (hW : Dg W B d (digs n.natAbs)) => r5right_t (w := W) hW hl' r2
  simp only [hs] at dx
  simp only [hr] at dy
  have DX := Lib.hid dx
  have DY := Lib.hid dy
  have lx := Lib.hid hl
  have ly := Lib.hid hl'
  have SX := Lib.hid (sg_of _ hs)
  have SY := Lib.hid (sg_of _ hr)
  have t1 : ((((digs m.natAbs).length : Nat) : Int) == 0) = false := beq_eq_false_iff_ne.2 (fun e => m0 (by have := digs_nil.1 (show (digs m.natAbs).length = 0 by omega); omega))
  have t2 : ((((digs n.natAbs).length : Nat) : Int) == 0) = false := beq_eq_false_iff_ne.2 (fun e => n0 (by have := digs_nil.1 (show (digs n.natAbs).length = 0 by omega); omega))
  have hsn : Int.sign m = Int.sign n := by have a := sign_three m; have b := sign_three n; simp at hs hr; omega
  have hz := cmp_sz hsn r1.1 r2.1 (by omega)
  rw [hq, hs, decide_eq_true (show  x + bl m < y + bl n by omega)] at hz
  obtain rfl : q = 1 := by
    rcases hz with h1 | h1
    · rw [← h1]; rfl
    · exact absurd h1 m0
  obtain ⟨s1, hs1⟩ : ∃ v : Int, x + bl m = v := ⟨_, rfl⟩
  obtain ⟨s2, hs2⟩ : ∃ v : Int, y + bl n = v := ⟨_, rfl⟩
  rw [hs1, hs2] at hc
  have sx := fun (W : World) (hW : Dg W A c (digs m.natAbs)) => r5size_any A c m x s1 W hW (Nat.le_trans hl (by omega)) (by omega) (by omega) hs1
  have sy := fun (W : World) (hW : Dg W B d (digs n.natAbs)) => r5size_any B d n y s2 W hW (Nat.le_trans hl' (by omega)) (by omega) (by omega) hs2
  simp only [hs] at sx
  simp only [hr] at sy
  have ZX := Lib.hid sx
  have ZY := Lib.hid sy
  have d0 : (s1 == s2) = false := by simp; omega
  have d0' : (s1 != s2) = true := by simp; omega
  have d1 : decide (s1 < s2) = true := by simp; omega
  have L0 := Lib.hid (((live_start w).add h).add h')
  clear h h' hl hl' r1 r2 dx dy hs hr hq hsn hz m0 n0 hc hs1 hs2 sx sy
  go_enter Tryz.func38, Tryz.ntmps38
  go_wp2_with fail
  obtain ⟨v1, hW, hb, Rx_1, Ry_1⟩ := new2 w (.cells #[.bool true, .slice A (digs m.natAbs).length c, .int .i64 x] 26) (.cells #[.bool true, .slice B (digs n.natAbs).length d, .int .i64 y] 26)
  rw [← hW]
  have L1 := ls L0 hb
  have Gx := gl0 L0.out
  have Gy := gl1 L0.out
  have Nxy : w.heap.size < w.heap.size + 1 := by omega
  clear hW hb
  refine (DX.out _ (L1.out.get (A := A) (c := c) (xs := digs m.natAbs) (by simp))).mono ?_
  rintro e w2 ⟨rfl, hb⟩
  have L2 := ls L1 hb
  have Rx_2 := co Rx_1 hb
  have Ry_2 := co Ry_1 hb
  clear hb 
  obtain ⟨fx0, zx0, fx1, zx1, fx2, zx2, xx⟩ := ly3 Rx_2.out
  obtain ⟨fy0, zy0, fy1, zy1, fy2, zy2, xy⟩ := ly3 Ry_2.out
  go_wp2_with fail
  refine (DY.out _ (L2.out.get (A := B) (c := d) (xs := digs n.natAbs) (by simp))).mono ?_
  rintro e w3 ⟨rfl, hb⟩
  have L3 := ls L2 hb
  clear fx0 zx0 fx1 zx1 fx2 zx2 xx fy0 zy0 fy1 zy1 fy2 zy2 xy
  have Rx_3 := co Rx_2 hb
  have Ry_3 := co Ry_2 hb
  clear hb 
  obtain ⟨fx0, zx0, fx1, zx1, fx2, zx2, xx⟩ := ly3 Rx_3.out
  obtain ⟨fy0, zy0, fy1, zy1, fy2, zy2, xy⟩ := ly3 Ry_3.out
  go_wp2_with fail
  clear fx0 zx0 fx1 zx1 fx2 zx2 xx fy0 zy0 fy1 zy1 fy2 zy2 xy
  obtain ⟨fx0, zx0, fx1, zx1, fx2, zx2, xx⟩ := ly3 Rx_3.out
  obtain ⟨fy0, zy0, fy1, zy1, fy2, zy2, xy⟩ := ly3 Ry_3.out
  have KD := Lib.hid (bd0 w3)
  have LD := ls L3 KD.out
  go_region_held3 (fun w' => ∀ b o, b < w3.heap.size → w'.cell? ⟨b, o, none⟩ = w3.cell? ⟨b, o, none⟩)
    (first | with_reducible exact (bcell KD.out).1 | with_reducible exact (bcell K5.out).1 | with_reducible exact (bcell K6.out).1)
    (first
      | (go_at_call_of 71 A; (with_reducible refine (ZX.out _ (LD.out.get (A := A) (c := c) (xs := digs m.natAbs) (by simp))).mono ?_); rintro e w5 ⟨rfl, hb⟩; (have K5 := bt KD hb); (have L5 := Lib.hid (LD.out.step hb)); clear hb )
      | (go_at_call_of 71 B; (with_reducible refine (ZY.out _ (L5.out.get (A := B) (c := d) (xs := digs n.natAbs) (by simp))).mono ?_); rintro e w6 ⟨rfl, hb⟩; (have K6 := bt K5 hb); (have L6 := Lib.hid (L5.out.step hb)); clear hb ))
  rename_i hHeld
  clear hHeld
  clear fx0 zx0 fx1 zx1 fx2 zx2 xx fy0 zy0 fy1 zy1 fy2 zy2 xy
  have Rx_6 := co Rx_3 K6.out
  have Ry_6 := co Ry_3 K6.out
  clear KD LD
  obtain ⟨fx0, zx0, fx1, zx1, fx2, zx2, xx⟩ := ly3 Rx_6.out
  obtain ⟨fy0, zy0, fy1, zy1, fy2, zy2, xy⟩ := ly3 Ry_6.out
  go_wp2_with fail
  clear fx0 zx0 fx1 zx1 fx2 zx2 xx fy0 zy0 fy1 zy1 fy2 zy2 xy
  obtain ⟨fx0, zx0, fx1, zx1, fx2, zx2, xx⟩ := ly3 Rx_6.out
  obtain ⟨fy0, zy0, fy1, zy1, fy2, zy2, xy⟩ := ly3 Ry_6.out
  have KD := Lib.hid (bd0 w6)
  have LD := ls L6 KD.out
  go_region_held3 (fun w' => ∀ b o, b < w6.heap.size → w'.cell? ⟨b, o, none⟩ = w6.cell? ⟨b, o, none⟩)
    (first | with_reducible exact (bcell KD.out).1 | with_reducible exact (bcell K8.out).1 | with_reducible exact (bcell K9.out).1)
    (first
      | (go_at_call_of 71 A; (with_reducible refine (ZX.out _ (LD.out.get (A := A) (c := c) (xs := digs m.natAbs) (by simp))).mono ?_); rintro e w8 ⟨rfl, hb⟩; (have K8 := bt KD hb); (have L8 := Lib.hid (LD.out.step hb)); clear hb )
      | (go_at_call_of 71 B; (with_reducible refine (ZY.out _ (L8.out.get (A := B) (c := d) (xs := digs n.natAbs) (by simp))).mono ?_); rintro e w9 ⟨rfl, hb⟩; (have K9 := bt K8 hb); (have L9 := Lib.hid (L8.out.step hb)); clear hb ))
  rename_i hHeld
  clear hHeld
  clear fx0 zx0 fx1 zx1 fx2 zx2 xx fy0 zy0 fy1 zy1 fy2 zy2 xy
  have Rx_9 := co Rx_6 K9.out
  have Ry_9 := co Ry_6 K9.out
  clear KD LD
  go_wp2
  go_ret
  exact ⟨rfl, L9.out.1⟩

set_option maxHeartbeats 4000000 in
set_option maxRecDepth 100000 in
theorem r5cmp_tt_gt (A B : Option Addr) (c d : Nat) (m n x y : Int) (w : World) (h : Dg w A c (digs m.natAbs)) (h' : Dg w B d (digs n.natAbs)) (hl : (digs m.natAbs).length ≤ 10000) (hl' : (digs n.natAbs).length ≤ 10000) (r1 : Rt m x) (r2 : Rt n y) (hs : decide (m < 0) = true) (hr : decide (n < 0) = true) {q : Int} (hq : cmpd (dv m x) (dv n y) = q) (m0 : m ≠ 0) (n0 : n ≠ 0) (hc : y + bl n < x + bl m):
    Calls Tryz.prog 38 #[.agg #[.bool true, .slice A (digs m.natAbs).length c, .int .i64 x], .agg #[.bool true, .slice B (digs n.natAbs).length d, .int .i64 y]] w fun e w' => e = .returned (.int .i64 q) ∧ Below w.heap.size w w' := by
  have x0 := r1.2.1
  have x1 := r1.2.2
  have y0 := r2.2.1
  have y1 := r2.2.2
  have dx := fun (W : World) (hW : Dg W A c (digs m.natAbs)) => r5right_t (w := W) hW hl r1
  have dy := fun (W : World) (hW : Dg W B d (digs n.natAbs)) => r5right_t (w := W) hW hl' r2
  simp only [hs] at dx
  simp only [hr] at dy
  have DX := Lib.hid dx
  have DY := Lib.hid dy
  have lx := Lib.hid hl
  have ly := Lib.hid hl'
  have SX := Lib.hid (sg_of _ hs)
  have SY := Lib.hid (sg_of _ hr)
  have t1 : ((((digs m.natAbs).length : Nat) : Int) == 0) = false := beq_eq_false_iff_ne.2 (fun e => m0 (by have := digs_nil.1 (show (digs m.natAbs).length = 0 by omega); omega))
  have t2 : ((((digs n.natAbs).length : Nat) : Int) == 0) = false := beq_eq_false_iff_ne.2 (fun e => n0 (by have := digs_nil.1 (show (digs n.natAbs).length = 0 by omega); omega))
  have hsn : Int.sign m = Int.sign n := by have a := sign_three m; have b := sign_three n; simp at hs hr; omega
  have hz := cmp_sz hsn r1.1 r2.1 (by omega)
  rw [hq, hs, decide_eq_false (show ¬ x + bl m < y + bl n by omega)] at hz
  obtain rfl : q = (-1) := by
    rcases hz with h1 | h1
    · rw [← h1]; rfl
    · exact absurd h1 m0
  obtain ⟨s1, hs1⟩ : ∃ v : Int, x + bl m = v := ⟨_, rfl⟩
  obtain ⟨s2, hs2⟩ : ∃ v : Int, y + bl n = v := ⟨_, rfl⟩
  rw [hs1, hs2] at hc
  have sx := fun (W : World) (hW : Dg W A c (digs m.natAbs)) => r5size_any A c m x s1 W hW (Nat.le_trans hl (by omega)) (by omega) (by omega) hs1
  have sy := fun (W : World) (hW : Dg W B d (digs n.natAbs)) => r5size_any B d n y s2 W hW (Nat.le_trans hl' (by omega)) (by omega) (by omega) hs2
  simp only [hs] at sx
  simp only [hr] at sy
  have ZX := Lib.hid sx
  have ZY := Lib.hid sy
  have d0 : (s1 == s2) = false := by simp; omega
  have d0' : (s1 != s2) = true := by simp; omega
  have d1 : decide (s1 < s2) = false := by simp; omega
  have L0 := Lib.hid (((live_start w).add h).add h')
  clear h h' hl hl' r1 r2 dx dy hs hr hq hsn hz m0 n0 hc hs1 hs2 sx sy
  go_enter Tryz.func38, Tryz.ntmps38
  go_wp2_with fail
  obtain ⟨v1, hW, hb, Rx_1, Ry_1⟩ := new2 w (.cells #[.bool true, .slice A (digs m.natAbs).length c, .int .i64 x] 26) (.cells #[.bool true, .slice B (digs n.natAbs).length d, .int .i64 y] 26)
  rw [← hW]
  have L1 := ls L0 hb
  have Gx := gl0 L0.out
  have Gy := gl1 L0.out
  have Nxy : w.heap.size < w.heap.size + 1 := by omega
  clear hW hb
  refine (DX.out _ (L1.out.get (A := A) (c := c) (xs := digs m.natAbs) (by simp))).mono ?_
  rintro e w2 ⟨rfl, hb⟩
  have L2 := ls L1 hb
  have Rx_2 := co Rx_1 hb
  have Ry_2 := co Ry_1 hb
  clear hb 
  obtain ⟨fx0, zx0, fx1, zx1, fx2, zx2, xx⟩ := ly3 Rx_2.out
  obtain ⟨fy0, zy0, fy1, zy1, fy2, zy2, xy⟩ := ly3 Ry_2.out
  go_wp2_with fail
  refine (DY.out _ (L2.out.get (A := B) (c := d) (xs := digs n.natAbs) (by simp))).mono ?_
  rintro e w3 ⟨rfl, hb⟩
  have L3 := ls L2 hb
  clear fx0 zx0 fx1 zx1 fx2 zx2 xx fy0 zy0 fy1 zy1 fy2 zy2 xy
  have Rx_3 := co Rx_2 hb
  have Ry_3 := co Ry_2 hb
  clear hb 
  obtain ⟨fx0, zx0, fx1, zx1, fx2, zx2, xx⟩ := ly3 Rx_3.out
  obtain ⟨fy0, zy0, fy1, zy1, fy2, zy2, xy⟩ := ly3 Ry_3.out
  go_wp2_with fail
  clear fx0 zx0 fx1 zx1 fx2 zx2 xx fy0 zy0 fy1 zy1 fy2 zy2 xy
  obtain ⟨fx0, zx0, fx1, zx1, fx2, zx2, xx⟩ := ly3 Rx_3.out
  obtain ⟨fy0, zy0, fy1, zy1, fy2, zy2, xy⟩ := ly3 Ry_3.out
  have KD := Lib.hid (bd0 w3)
  have LD := ls L3 KD.out
  go_region_held3 (fun w' => ∀ b o, b < w3.heap.size → w'.cell? ⟨b, o, none⟩ = w3.cell? ⟨b, o, none⟩)
    (first | with_reducible exact (bcell KD.out).1 | with_reducible exact (bcell K5.out).1 | with_reducible exact (bcell K6.out).1)
    (first
      | (go_at_call_of 71 A; (with_reducible refine (ZX.out _ (LD.out.get (A := A) (c := c) (xs := digs m.natAbs) (by simp))).mono ?_); rintro e w5 ⟨rfl, hb⟩; (have K5 := bt KD hb); (have L5 := Lib.hid (LD.out.step hb)); clear hb )
      | (go_at_call_of 71 B; (with_reducible refine (ZY.out _ (L5.out.get (A := B) (c := d) (xs := digs n.natAbs) (by simp))).mono ?_); rintro e w6 ⟨rfl, hb⟩; (have K6 := bt K5 hb); (have L6 := Lib.hid (L5.out.step hb)); clear hb ))
  rename_i hHeld
  clear hHeld
  clear fx0 zx0 fx1 zx1 fx2 zx2 xx fy0 zy0 fy1 zy1 fy2 zy2 xy
  have Rx_6 := co Rx_3 K6.out
  have Ry_6 := co Ry_3 K6.out
  clear KD LD
  obtain ⟨fx0, zx0, fx1, zx1, fx2, zx2, xx⟩ := ly3 Rx_6.out
  obtain ⟨fy0, zy0, fy1, zy1, fy2, zy2, xy⟩ := ly3 Ry_6.out
  go_wp2_with fail
  clear fx0 zx0 fx1 zx1 fx2 zx2 xx fy0 zy0 fy1 zy1 fy2 zy2 xy
  obtain ⟨fx0, zx0, fx1, zx1, fx2, zx2, xx⟩ := ly3 Rx_6.out
  obtain ⟨fy0, zy0, fy1, zy1, fy2, zy2, xy⟩ := ly3 Ry_6.out
  have KD := Lib.hid (bd0 w6)
  have LD := ls L6 KD.out
  go_region_held3 (fun w' => ∀ b o, b < w6.heap.size → w'.cell? ⟨b, o, none⟩ = w6.cell? ⟨b, o, none⟩)
    (first | with_reducible exact (bcell KD.out).1 | with_reducible exact (bcell K8.out).1 | with_reducible exact (bcell K9.out).1)
    (first
      | (go_at_call_of 71 A; (with_reducible refine (ZX.out _ (LD.out.get (A := A) (c := c) (xs := digs m.natAbs) (by simp))).mono ?_); rintro e w8 ⟨rfl, hb⟩; (have K8 := bt KD hb); (have L8 := Lib.hid (LD.out.step hb)); clear hb )
      | (go_at_call_of 71 B; (with_reducible refine (ZY.out _ (L8.out.get (A := B) (c := d) (xs := digs n.natAbs) (by simp))).mono ?_); rintro e w9 ⟨rfl, hb⟩; (have K9 := bt K8 hb); (have L9 := Lib.hid (L8.out.step hb)); clear hb ))
  rename_i hHeld
  clear hHeld
  clear fx0 zx0 fx1 zx1 fx2 zx2 xx fy0 zy0 fy1 zy1 fy2 zy2 xy
  have Rx_9 := co Rx_6 K9.out
  have Ry_9 := co Ry_6 K9.out
  clear KD LD
  go_wp2
  go_ret
  exact ⟨rfl, L9.out.1⟩

set_option maxHeartbeats 4000000 in
set_option maxRecDepth 100000 in
theorem r5cmp_tt_eq (A B : Option Addr) (c d : Nat) (m n x y : Int) (w : World) (h : Dg w A c (digs m.natAbs)) (h' : Dg w B d (digs n.natAbs)) (hl : (digs m.natAbs).length ≤ 10000) (hl' : (digs n.natAbs).length ≤ 10000) (r1 : Rt m x) (r2 : Rt n y) (hs : decide (m < 0) = true) (hr : decide (n < 0) = true) {q : Int} (hq : cmpd (dv m x) (dv n y) = q) (m0 : m ≠ 0) (n0 : n ≠ 0) (hc : x + bl m = y + bl n):
    Calls Tryz.prog 38 #[.agg #[.bool true, .slice A (digs m.natAbs).length c, .int .i64 x], .agg #[.bool true, .slice B (digs n.natAbs).length d, .int .i64 y]] w fun e w' => e = .returned (.int .i64 q) ∧ Below w.heap.size w w' := by
  have x0 := r1.2.1
  have x1 := r1.2.2
  have y0 := r2.2.1
  have y1 := r2.2.2
  have dx := fun (W : World) (hW : Dg W A c (digs m.natAbs)) => r5right_t (w := W) hW hl r1
  have dy := fun (W : World) (hW : Dg W B d (digs n.natAbs)) => r5right_t (w := W) hW hl' r2
  simp only [hs] at dx
  simp only [hr] at dy
  have DX := Lib.hid dx
  have DY := Lib.hid dy
  have lx := Lib.hid hl
  have ly := Lib.hid hl'
  have SX := Lib.hid (sg_of _ hs)
  have SY := Lib.hid (sg_of _ hr)
  have t1 : ((((digs m.natAbs).length : Nat) : Int) == 0) = false := beq_eq_false_iff_ne.2 (fun e => m0 (by have := digs_nil.1 (show (digs m.natAbs).length = 0 by omega); omega))
  have t2 : ((((digs n.natAbs).length : Nat) : Int) == 0) = false := beq_eq_false_iff_ne.2 (fun e => n0 (by have := digs_nil.1 (show (digs n.natAbs).length = 0 by omega); omega))
  obtain ⟨e0, he0⟩ : ∃ e, min x y = e := ⟨_, rfl⟩
  obtain ⟨p, hp⟩ : ∃ e, upto m x e0 = e := ⟨_, rfl⟩
  obtain ⟨t, ht⟩ : ∃ e, upto n y e0 = e := ⟨_, rfl⟩
  have HQ := Lib.hid (show Int.sign (p - t) = q by rw [← hq]; exact cmp_up he0 hp ht)
  have lp := upto_len2 (m := m) (x := x) (e0 := e0) hl (by omega)
  have lq := upto_len2 (m := n) (x := y) (e0 := e0) hl' (by omega)
  rw [hp] at lp
  rw [ht] at lq
  have LP := Lib.hid lp
  have LQ := Lib.hid lq
  have lf := fun (W : World) (h1 : Dg W A c (digs m.natAbs)) (h2 : Dg W B d (digs n.natAbs)) => r5lift_any (w := W) h1 h2 hl hl' x0 x1 y0 y1 m0 n0 he0 hp ht
  simp only [hs, hr] at lf
  have LF := Lib.hid lf
  obtain ⟨s1, hs1⟩ : ∃ v : Int, x + bl m = v := ⟨_, rfl⟩
  obtain ⟨s2, hs2⟩ : ∃ v : Int, y + bl n = v := ⟨_, rfl⟩
  rw [hs1, hs2] at hc
  have sx := fun (W : World) (hW : Dg W A c (digs m.natAbs)) => r5size_any A c m x s1 W hW (Nat.le_trans hl (by omega)) (by omega) (by omega) hs1
  have sy := fun (W : World) (hW : Dg W B d (digs n.natAbs)) => r5size_any B d n y s2 W hW (Nat.le_trans hl' (by omega)) (by omega) (by omega) hs2
  simp only [hs] at sx
  simp only [hr] at sy
  have ZX := Lib.hid sx
  have ZY := Lib.hid sy
  have d0 : (s1 == s2) = true := by simp; omega
  have d0' : (s1 != s2) = false := by simp; omega
  have L0 := Lib.hid (((live_start w).add h).add h')
  clear h h' hl hl' r1 r2 dx dy hs hr hq m0 n0 he0 hp ht lp lq lf hc hs1 hs2 sx sy
  go_enter Tryz.func38, Tryz.ntmps38
  go_wp2_with fail
  obtain ⟨v1, hW, hb, Rx_1, Ry_1⟩ := new2 w (.cells #[.bool true, .slice A (digs m.natAbs).length c, .int .i64 x] 26) (.cells #[.bool true, .slice B (digs n.natAbs).length d, .int .i64 y] 26)
  rw [← hW]
  have L1 := ls L0 hb
  have Gx := gl0 L0.out
  have Gy := gl1 L0.out
  have Nxy : w.heap.size < w.heap.size + 1 := by omega
  clear hW hb
  refine (DX.out _ (L1.out.get (A := A) (c := c) (xs := digs m.natAbs) (by simp))).mono ?_
  rintro e w2 ⟨rfl, hb⟩
  have L2 := ls L1 hb
  have Rx_2 := co Rx_1 hb
  have Ry_2 := co Ry_1 hb
  clear hb 
  obtain ⟨fx0, zx0, fx1, zx1, fx2, zx2, xx⟩ := ly3 Rx_2.out
  obtain ⟨fy0, zy0, fy1, zy1, fy2, zy2, xy⟩ := ly3 Ry_2.out
  go_wp2_with fail
  refine (DY.out _ (L2.out.get (A := B) (c := d) (xs := digs n.natAbs) (by simp))).mono ?_
  rintro e w3 ⟨rfl, hb⟩
  have L3 := ls L2 hb
  clear fx0 zx0 fx1 zx1 fx2 zx2 xx fy0 zy0 fy1 zy1 fy2 zy2 xy
  have Rx_3 := co Rx_2 hb
  have Ry_3 := co Ry_2 hb
  clear hb 
  obtain ⟨fx0, zx0, fx1, zx1, fx2, zx2, xx⟩ := ly3 Rx_3.out
  obtain ⟨fy0, zy0, fy1, zy1, fy2, zy2, xy⟩ := ly3 Ry_3.out
  go_wp2_with fail
  clear fx0 zx0 fx1 zx1 fx2 zx2 xx fy0 zy0 fy1 zy1 fy2 zy2 xy
  obtain ⟨fx0, zx0, fx1, zx1, fx2, zx2, xx⟩ := ly3 Rx_3.out
  obtain ⟨fy0, zy0, fy1, zy1, fy2, zy2, xy⟩ := ly3 Ry_3.out
  have KD := Lib.hid (bd0 w3)
  have LD := ls L3 KD.out
  go_region_held3 (fun w' => ∀ b o, b < w3.heap.size → w'.cell? ⟨b, o, none⟩ = w3.cell? ⟨b, o, none⟩)
    (first | with_reducible exact (bcell KD.out).1 | with_reducible exact (bcell K5.out).1 | with_reducible exact (bcell K6.out).1)
    (first
      | (go_at_call_of 71 A; (with_reducible refine (ZX.out _ (LD.out.get (A := A) (c := c) (xs := digs m.natAbs) (by simp))).mono ?_); rintro e w5 ⟨rfl, hb⟩; (have K5 := bt KD hb); (have L5 := Lib.hid (LD.out.step hb)); clear hb )
      | (go_at_call_of 71 B; (with_reducible refine (ZY.out _ (L5.out.get (A := B) (c := d) (xs := digs n.natAbs) (by simp))).mono ?_); rintro e w6 ⟨rfl, hb⟩; (have K6 := bt K5 hb); (have L6 := Lib.hid (L5.out.step hb)); clear hb ))
  rename_i hHeld
  clear hHeld
  clear fx0 zx0 fx1 zx1 fx2 zx2 xx fy0 zy0 fy1 zy1 fy2 zy2 xy
  have Rx_6 := co Rx_3 K6.out
  have Ry_6 := co Ry_3 K6.out
  clear KD LD
  clear d0 d0'
  obtain ⟨fx0, zx0, fx1, zx1, fx2, zx2, xx⟩ := ly3 Rx_6.out
  obtain ⟨fy0, zy0, fy1, zy1, fy2, zy2, xy⟩ := ly3 Ry_6.out
  go_wp2_with fail
  refine (LF.out _ (L6.out.get (A := A) (c := c) (xs := digs m.natAbs) (by simp)) (L6.out.get (A := B) (c := d) (xs := digs n.natAbs) (by simp))).mono ?_
  rintro e w7 ⟨A7, c7, B7, d7, rfl, hd, hd', hb⟩
  have L7 := Lib.hid (((L6.out.step hb).add hd).add hd')
  clear fx0 zx0 fx1 zx1 fx2 zx2 xx fy0 zy0 fy1 zy1 fy2 zy2 xy
  have Rx_7 := co Rx_6 hb
  have Ry_7 := co Ry_6 hb
  clear hb hd hd'
  go_wp2_with fail
  obtain ⟨w8, hW, hb, Ra_8, Rb_8⟩ := new2 w7 (.cells #[.bool (decide (p < 0)), .slice A7 (digs p.natAbs).length c7] 24) (.cells #[.bool (decide (t < 0)), .slice B7 (digs t.natAbs).length d7] 24)
  rw [← hW]
  have L8 := ls L7 hb
  have Rx_8 := co Rx_7 hb
  have Ry_8 := co Ry_7 hb
  have Ga := gl0 L7.out
  have Nxa := nl0 Rx_7.out
  have Nya := nl0 Ry_7.out
  have Gb := gl1 L7.out
  have Nxb := nl1 Rx_7.out
  have Nyb := nl1 Ry_7.out
  have Nab : w7.heap.size < w7.heap.size + 1 := by omega
  clear hW hb
  refine (rzcmp_j (L8.out.get (A := A7) (c := c7) (xs := digs p.natAbs) (by simp)) (L8.out.get (A := B7) (c := d7) (xs := digs t.natAbs) (by simp)) (sg_of _ rfl) (sg_of _ rfl) (Nat.le_trans LP.out (by omega)) (Nat.le_trans LQ.out (by omega)) HQ.out).mono ?_
  rintro e w9 ⟨rfl, hb⟩
  have L9 := ls L8 hb
  have Rx_9 := co Rx_8 hb
  have Ry_9 := co Ry_8 hb
  have Ra_9 := co Ra_8 hb
  have Rb_9 := co Rb_8 hb
  clear hb 
  go_wp2
  go_ret
  exact ⟨rfl, L9.out.1⟩

theorem r5cmp_any {A B : Option Addr} {c d : Nat} {m n x y q : Int} {w : World} (h : Dg w A c (digs m.natAbs)) (h' : Dg w B d (digs n.natAbs)) (hl : (digs m.natAbs).length ≤ 10000) (hl' : (digs n.natAbs).length ≤ 10000) (r1 : Rt m x) (r2 : Rt n y) (hq : cmpd (dv m x) (dv n y) = q) :
    Calls Tryz.prog 38 #[.agg #[.bool (decide (m < 0)), .slice A (digs m.natAbs).length c, .int .i64 x], .agg #[.bool (decide (n < 0)), .slice B (digs n.natAbs).length d, .int .i64 y]] w fun e w' => e = .returned (.int .i64 q) ∧ Below w.heap.size w w' := by
  obtain ⟨s, hs⟩ : ∃ s, decide (m < 0) = s := ⟨_, rfl⟩
  obtain ⟨r, hr⟩ : ∃ s, decide (n < 0) = s := ⟨_, rfl⟩
  rw [hs, hr]
  cases s <;> cases r
  · by_cases m0 : m = 0
    · exact r5cmp_ff_z1 A B c d m n x y w h h' hl hl' r1 r2 hs hr hq m0
    · by_cases n0 : n = 0
      · exact r5cmp_ff_z2 A B c d m n x y w h h' hl hl' r1 r2 hs hr hq m0 n0
      · rcases Int.lt_trichotomy (x + bl m) (y + bl n) with hc | hc | hc
        · exact r5cmp_ff_lt A B c d m n x y w h h' hl hl' r1 r2 hs hr hq m0 n0 hc
        · exact r5cmp_ff_eq A B c d m n x y w h h' hl hl' r1 r2 hs hr hq m0 n0 hc
        · exact r5cmp_ff_gt A B c d m n x y w h h' hl hl' r1 r2 hs hr hq m0 n0 hc
  · exact r5cmp_ft_far A B c d m n x y w h h' hl hl' r1 r2 hs hr hq
  · exact r5cmp_tf_far A B c d m n x y w h h' hl hl' r1 r2 hs hr hq
  · by_cases m0 : m = 0
    · exact absurd hs (by subst m0; decide)
    · by_cases n0 : n = 0
      · exact absurd hr (by subst n0; decide)
      · rcases Int.lt_trichotomy (x + bl m) (y + bl n) with hc | hc | hc
        · exact r5cmp_tt_lt A B c d m n x y w h h' hl hl' r1 r2 hs hr hq m0 n0 hc
        · exact r5cmp_tt_eq A B c d m n x y w h h' hl hl' r1 r2 hs hr hq m0 n0 hc
        · exact r5cmp_tt_gt A B c d m n x y w h h' hl hl' r1 r2 hs hr hq m0 n0 hc
end Go.Proofs.YtijodbjdajddoaaGreatDoor
end

section
/-
  A region that draws its order, whose last store may come ahead of what stands behind it ('x, ok := f(g(a), b)': the store into x's new box, and ok's part of the answer).
-/
namespace Go.Proofs.YtijodbjdajddoaaGreatDoor
open Go.RowKit
section
variable {P : Program} {ops : Array Oper} {Q : Exit → Act → World → Prop} {md : Region.Mode}
theorem wpAny_phaseP {Pb Ob : Nat → Bool} (I : Array Bool → Act → World → Prop) (hb : backB md ops = true) (hne : ∃ j, j < ops.size ∧ Ob j = false)
    (hP : ∀ i, i < ops.size → Ob i = false → ∀ k, k < ops.size → Pb k = true → waitsT md ops ops.size i k = true)
    (step : ∀ l a w i, I l a w → l.size = ops.size → i < ops.size → Ob i = true → i ∈ Region.ready md ops l → wpOp P ops Q i (fun a' w' => I (l.setIfInBounds i true) a' w') a w)
    (fin : ∀ l a w, I l a w → l.size = ops.size → (∀ i, i < ops.size → Pb i = true → l.getD i false = true) → (∀ i, i < ops.size → Ob i = false → l.getD i false = false) → ∀ fuel, still l ≤ fuel → wpAny P md ops Q fuel l a w) :
    ∀ (fuel : Nat) (l : Array Bool) (a : Act) (w : World), still l ≤ fuel → l.size = ops.size → Down md ops l → (∀ k, k < ops.size → Ob k = false → l.getD k false = false) → I l a w → wpAny P md ops Q fuel l a w := by
  intro fuel
  induction fuel with
  | zero =>
    intro l a w hf hl hd hno hI
    exfalso
    obtain ⟨j, hj, hjp⟩ := hne
    have h1 := hno j hj hjp
    have h2 : l.getD j true = false := by
      have : j < l.size := by omega
      simp [this] at h1 ⊢; exact h1
    have := still_set h2
    omega
  | succ fuel ih =>
    intro l a w hf hl hd hno hI
    by_cases hall : ∀ k, k < ops.size → Pb k = true → l.getD k false = true
    · exact fin l a w hI hl hall hno _ hf
    · refine ⟨fun hr => ?_, fun i hi => ?_⟩
      · exfalso
        obtain ⟨j, hj, hjp⟩ := hne
        have := all_of_back hb hl hr j hj
        rw [hno j hj hjp] at this; cases this
      · have hiu := (mem_ready.1 hi).1
        have hin : i < ops.size := by
          rcases Nat.lt_or_ge i l.size with h' | h'
          · omega
          · simp [Array.getElem?_eq_none h'] at hiu
        have hip : Ob i = true := by
          cases hp : Ob i
          · exfalso; apply hall
            intro k hk hkp
            exact hd.ready hi (hP i hin hp k hk hkp)
          · rfl
        have hst := still_set hiu
        refine wpOp_mono (fun a' w' h' => ih _ a' w' (by omega) (by simpa using hl) (hd.set hi) (fun k hk hkp => ?_) h') (step l a w i hI hl hin hip hi)
        have : i ≠ k := by rintro rfl; rw [hip] at hkp; cases hkp
        rw [getD_set_ne false this]; exact hno k hk hkp
/-- Two in either order, and one behind them. -/
theorem wpAny_late {L0 : Array Bool} {x y z : Nat} {a : Act} {w : World} {fuel : Nat} (hf : 3 ≤ fuel) (r1 : Region.ready md ops L0 = [x, y]) (r2 : Region.ready md ops (L0.setIfInBounds x true) = [y]) (r3 : Region.ready md ops (L0.setIfInBounds y true) = [x])
    (r4 : Region.ready md ops ((L0.setIfInBounds x true).setIfInBounds y true) = [z]) (r5 : Region.ready md ops ((L0.setIfInBounds y true).setIfInBounds x true) = [z])
    (r6 : Region.ready md ops (((L0.setIfInBounds x true).setIfInBounds y true).setIfInBounds z true) = []) (r7 : Region.ready md ops (((L0.setIfInBounds y true).setIfInBounds x true).setIfInBounds z true) = [])
    (h1 : wpOps P ops Q [x, y, z] a w) (h2 : wpOps P ops Q [y, x, z] a w) : wpAny P md ops Q fuel L0 a w := by
  obtain ⟨f, rfl⟩ : ∃ f, fuel = f + 1 + 1 + 1 := ⟨fuel - 3, by omega⟩
  have hend : ∀ l a w, Region.ready md ops l = [] → Q .normal a w → wpAny P md ops Q f l a w := by
    intro l a w hr hq
    cases f with
    | zero => exact ⟨hr, hq⟩
    | succ f => exact ⟨fun _ => hq, fun i hi => by rw [hr] at hi; cases hi⟩
  simp only [wpOps_cons] at h1 h2
  refine ⟨fun hr => (by rw [r1] at hr; cases hr), fun i hi => ?_⟩
  rw [r1] at hi
  simp only [List.mem_cons, List.not_mem_nil, or_false] at hi
  rcases hi with rfl | rfl
  · refine wpOp_mono (fun a w h => ⟨fun hr => (by rw [r2] at hr; cases hr), fun j hj => ?_⟩) h1
    rw [r2] at hj; simp only [List.mem_cons, List.not_mem_nil, or_false] at hj; subst hj
    refine wpOp_mono (fun a w h => ⟨fun hr => (by rw [r4] at hr; cases hr), fun j hj => ?_⟩) h
    rw [r4] at hj; simp only [List.mem_cons, List.not_mem_nil, or_false] at hj; subst hj
    exact wpOp_mono (fun a w h => hend _ _ _ r6 h) h
  · refine wpOp_mono (fun a w h => ⟨fun hr => (by rw [r3] at hr; cases hr), fun j hj => ?_⟩) h2
    rw [r3] at hj; simp only [List.mem_cons, List.not_mem_nil, or_false] at hj; subst hj
    refine wpOp_mono (fun a w h => ⟨fun hr => (by rw [r5] at hr; cases hr), fun j hj => ?_⟩) h
    rw [r5] at hj; simp only [List.mem_cons, List.not_mem_nil, or_false] at hj; subst hj
    exact wpOp_mono (fun a w h => hend _ _ _ r7 h) h
theorem wpAny_two {L0 : Array Bool} {y z : Nat} {a : Act} {w : World} {fuel : Nat} (hf : 2 ≤ fuel) (r1 : Region.ready md ops L0 = [y]) (r2 : Region.ready md ops (L0.setIfInBounds y true) = [z]) (r3 : Region.ready md ops ((L0.setIfInBounds y true).setIfInBounds z true) = [])
    (h1 : wpOps P ops Q [y, z] a w) : wpAny P md ops Q fuel L0 a w := by
  obtain ⟨f, rfl⟩ : ∃ f, fuel = f + 1 + 1 := ⟨fuel - 2, by omega⟩
  have hend : ∀ l a w, Region.ready md ops l = [] → Q .normal a w → wpAny P md ops Q f l a w := by
    intro l a w hr hq
    cases f with
    | zero => exact ⟨hr, hq⟩
    | succ f => exact ⟨fun _ => hq, fun i hi => by rw [hr] at hi; cases hi⟩
  simp only [wpOps_cons] at h1
  refine ⟨fun hr => (by rw [r1] at hr; cases hr), fun i hi => ?_⟩
  rw [r1] at hi; simp only [List.mem_cons, List.not_mem_nil, or_false] at hi; subst hi
  refine wpOp_mono (fun a w h => ⟨fun hr => (by rw [r2] at hr; cases hr), fun j hj => ?_⟩) h1
  rw [r2] at hj; simp only [List.mem_cons, List.not_mem_nil, or_false] at hj; subst hj
  exact wpOp_mono (fun a w h => hend _ _ _ r3 h) h
/-- Loads, calls and new boxes in whatever order; behind them a store, and the last one; and one (x) that may come ahead of the store or behind it. D: the operands' slots; S: their numbers, but x. -/
theorem wp_operands_late {id : Nat} {a0 : Act} {W : World} (hm : P.follows .mixedOrders = true) (x y z : Nat) (S : List Nat) (D : List Tmp) (R : Nat → Value → World → Prop)
    (hn : ((List.range ops.size).all fun i => S.contains i || i == x || i == y || i == z) = true) (hb : backB .any ops = true) (hx : x < ops.size ∧ y < ops.size ∧ z < ops.size ∧ x ≠ y ∧ x ≠ z ∧ y ≠ z)
    (hS : (S.all fun i => decide (i < ops.size) && decide (i ≠ x) && decide (i ≠ y) && decide (i ≠ z)) = true)
    (ht : ([y, z].all fun i => S.all fun k => waitsT .any ops ops.size i k) = true) (hw : ((x :: S).all fun i => (List.range ops.size).all fun k => !waitsB .any ops i k || S.contains k) = true)
    (hnd : ((x :: S).map (D.getD · 0)).Nodup) (hin : ((x :: S).all fun i => decide (D.getD i 0 < a0.tmps.size)) = true)
    (r1 : Region.ready .any ops ((List.range ops.size).map (S.contains ·)).toArray = [x, y]) (r2 : Region.ready .any ops (((List.range ops.size).map (S.contains ·)).toArray.setIfInBounds x true) = [y]) (r3 : Region.ready .any ops (((List.range ops.size).map (S.contains ·)).toArray.setIfInBounds y true) = [x])
    (r4 : Region.ready .any ops ((((List.range ops.size).map (S.contains ·)).toArray.setIfInBounds x true).setIfInBounds y true) = [z]) (r5 : Region.ready .any ops ((((List.range ops.size).map (S.contains ·)).toArray.setIfInBounds y true).setIfInBounds x true) = [z])
    (r6 : Region.ready .any ops (((((List.range ops.size).map (S.contains ·)).toArray.setIfInBounds x true).setIfInBounds y true).setIfInBounds z true) = []) (r7 : Region.ready .any ops (((((List.range ops.size).map (S.contains ·)).toArray.setIfInBounds y true).setIfInBounds x true).setIfInBounds z true) = [])
    (st : ∀ i u w w', i ∈ x :: S → R i u w → Below w.heap.size w w' → R i u w')
    (step : ∀ i a w K, i ∈ x :: S → Fr6 ((x :: S).map (D.getD · 0)) a0 a → Below W.heap.size W w → (∀ k, waitsB .any ops i k = true → R k (a.tmps.getD (D.getD k 0) undef) w) →
      (∀ u w', R i u w' → Below w.heap.size w w' → K (a.put (some (D.getD i 0)) u) w') → wpOp P ops Q i K a w)
    (fin : ∀ a w, Fr6 ((x :: S).map (D.getD · 0)) a0 a → Below W.heap.size W w → (∀ i, i ∈ S → R i (a.tmps.getD (D.getD i 0) undef) w) → (wpOps P ops Q [x, y, z] a w ∧ wpOps P ops Q [y, x, z] a w) ∧ (R x (a.tmps.getD (D.getD x 0) undef) w → wpOps P ops Q [y, z] a w)) :
    (Code.region id ops true).wp P Q a0 W := by
  have memS : ∀ i, i ∈ S → i < ops.size := fun i hi => by
    rw [List.all_eq_true] at hS
    have := hS i hi
    simp only [Bool.and_eq_true, decide_eq_true_eq] at this
    exact this.1.1.1
  have notS : ∀ i, i ∈ S → i ≠ x ∧ i ≠ y ∧ i ≠ z := fun i hi => by
    rw [List.all_eq_true] at hS
    have := hS i hi
    simp only [Bool.and_eq_true, decide_eq_true_eq] at this
    exact ⟨this.1.1.2, this.1.2, this.2⟩
  have memO : ∀ i, i ∈ x :: S → i < ops.size := fun i hi => by
    rcases List.mem_cons.1 hi with rfl | h
    · exact hx.1
    · exact memS i h
  have hlt : ∀ i, i ∈ x :: S → D.getD i 0 < a0.tmps.size := fun i hi => by
    rw [List.all_eq_true] at hin
    simpa using hin i hi
  have hne : ∀ i j, i ∈ x :: S → j ∈ x :: S → i ≠ j → D.getD i 0 ≠ D.getD j 0 := fun i j hi hj h e => by
    obtain ⟨p, hp, hpe⟩ := List.getElem_of_mem hi
    obtain ⟨q, hq, hqe⟩ := List.getElem_of_mem hj
    have h1 : ((x :: S).map (D.getD · 0))[p]'(by simpa using hp) = ((x :: S).map (D.getD · 0))[q]'(by simpa using hq) := by
      rw [List.getElem_map, List.getElem_map, hpe, hqe]; exact e
    have h2 := (List.getElem_inj hnd).1 h1
    subst h2
    exact h (hpe.symm.trans hqe)
  have hmem : ∀ i, i ∈ x :: S → D.getD i 0 ∈ (x :: S).map (D.getD · 0) := fun i hi => List.mem_map.2 ⟨i, hi, rfl⟩
  have hrest : ∀ i, i < ops.size → (x :: S).contains i = false → i = y ∨ i = z := by
    intro i hi hc
    rw [List.all_eq_true] at hn
    have h1 := hn i (List.mem_range.2 hi)
    have h2 : i ∉ x :: S := fun hm => by rw [List.contains_iff_mem.2 hm] at hc; cases hc
    simp only [List.mem_cons, not_or] at h2
    have h3 : S.contains i = false := by
      cases h4 : S.contains i
      · rfl
      · exact absurd (List.contains_iff_mem.1 h4) h2.2
    rw [h3] at h1
    have h5 : (i == x) = false := by simpa using h2.1
    rw [h5] at h1
    simpa using h1
  have yO : (x :: S).contains y = false := by
    cases hc : (x :: S).contains y
    · rfl
    · rcases List.mem_cons.1 (List.contains_iff_mem.1 hc) with h | h
      · exact absurd h.symm hx.2.2.2.1
      · exact absurd rfl (notS y h).2.1
  have zO : (x :: S).contains z = false := by
    cases hc : (x :: S).contains z
    · rfl
    · rcases List.mem_cons.1 (List.contains_iff_mem.1 hc) with h | h
      · exact absurd h.symm hx.2.2.2.2.1
      · exact absurd rfl (notS z h).2.2
  have zz : ∀ j, (Array.replicate ops.size false).getD j false = false := by intro j; simp [Array.getElem?_replicate]; split <;> rfl
  refine wp_region_any hm (wpAny_phaseP (Pb := fun i => S.contains i) (Ob := fun i => (x :: S).contains i) (fun l a w => Fr6 ((x :: S).map (D.getD · 0)) a0 a ∧ Below W.heap.size W w ∧ (∀ i, i ∈ x :: S → l.getD i false = true → R i (a.tmps.getD (D.getD i 0) undef) w)) hb
    ⟨y, hx.2.1, yO⟩ ?_ ?_ ?_ _ _ _ _ ?_ (by simp) ?_ ?_ ?_)
  · intro i hi hc k hk hkp
    rw [List.all_eq_true] at ht
    have hi3 : i ∈ [y, z] := by rcases hrest i hi hc with rfl | rfl <;> simp
    have := ht i hi3
    rw [List.all_eq_true] at this
    exact this k (List.contains_iff_mem.1 hkp)
  · rintro l a w i ⟨hF, hbw, hR⟩ hl hi hip hir
    have hiS := List.contains_iff_mem.1 hip
    have ps : a.tmps.size = a0.tmps.size := hF.2.1
    refine step i a w _ hiS hF hbw (fun k hk => hR k ?_ (waits_spec hk hir)) (fun u w' hu hbb => ⟨hF.put (hmem i hiS) _, hbw.trans (hbb.mono hbw.size), fun j hj hjl => ?_⟩)
    · rw [List.all_eq_true] at hw
      have h1 := hw i hiS
      rw [List.all_eq_true] at h1
      have hks : k < ops.size := by
        rcases Nat.lt_or_ge k ops.size with h | h
        · exact h
        · exfalso
          have := waits_spec hk hir
          have h2 : l.size ≤ k := by omega
          simp [Array.getElem?_eq_none h2] at this
      have h2 := h1 k (List.mem_range.2 hks)
      rw [hk] at h2
      exact List.mem_cons_of_mem _ (List.contains_iff_mem.1 (by simpa using h2))
    · by_cases hij : i = j
      · subst hij; rw [put_same _ _ _ (by rw [ps]; exact hlt i hiS)]; exact hu
      · rw [getD_set_ne false hij] at hjl
        rw [put_other _ _ _ _ (hne i j hiS hj hij)]
        exact st j _ _ _ hj (hR j hj hjl) hbb
  · rintro l a w ⟨hF, hbw, hR⟩ hl hall hno fuel hfu
    have hf := fin a w hF hbw (fun i hi => hR i (List.mem_cons_of_mem _ hi) (hall i (memS i hi) (List.contains_iff_mem.2 hi)))
    have gt : ∀ (m : Array Bool) (j : Nat), j < m.size → m.getD j false = false → m.getD j true = false := by
      intro m j hj h
      simp [hj] at h ⊢; exact h
    have ly := gt l y (by have := hx.2.1; omega) (hno y hx.2.1 yO)
    have lz := gt l z (by have := hx.2.2.1; omega) (hno z hx.2.2.1 zO)
    have hval : ∀ i, i < ops.size → i ≠ x → l.getD i false = S.contains i := by
      intro i hi hix
      cases hc : S.contains i
      · refine hno i hi ?_
        cases hc2 : (x :: S).contains i
        · rfl
        · rcases List.mem_cons.1 (List.contains_iff_mem.1 hc2) with h | h
          · exact absurd h hix
          · rw [List.contains_iff_mem.2 h] at hc; cases hc
      · exact hall i hi hc
    have xS : S.contains x = false := by
      cases hc : S.contains x
      · rfl
      · exact absurd rfl (notS x (List.contains_iff_mem.1 hc)).1
    have two : 2 ≤ still l := by
      have s1 := still_set ly
      have e2 : (l.setIfInBounds y true).getD z true = false := by rw [getD_set_ne true hx.2.2.2.2.2]; exact lz
      have s2 := still_set e2
      omega
    cases hlx : l.getD x false
    · have hlL : l = ((List.range ops.size).map (S.contains ·)).toArray := by
        apply Array.ext
        · simp [hl]
        · intro i h1 h2
          have : l.getD i false = S.contains i := by
            by_cases hix : i = x
            · rw [hix, hlx, xS]
            · exact hval i (by omega) hix
          simp only [Array.getD_eq_getD_getElem?, Array.getElem?_eq_getElem h1, Option.getD_some] at this
          rw [this]; simp
      have lx := gt l x (by have := hx.1; omega) hlx
      have three : 3 ≤ still l := by
        have s1 := still_set lx
        have e1 : (l.setIfInBounds x true).getD y true = false := by rw [getD_set_ne true hx.2.2.2.1]; exact ly
        have s2 := still_set e1
        have e2 : ((l.setIfInBounds x true).setIfInBounds y true).getD z true = false := by rw [getD_set_ne true hx.2.2.2.2.2, getD_set_ne true hx.2.2.2.2.1]; exact lz
        have s3 := still_set e2
        omega
      rw [hlL]
      exact wpAny_late (by omega) r1 r2 r3 r4 r5 r6 r7 hf.1.1 hf.1.2
    · have hlL : l = (((List.range ops.size).map (S.contains ·)).toArray.setIfInBounds x true) := by
        apply Array.ext
        · simp [hl]
        · intro i h1 h2
          by_cases hix : i = x
          · subst hix
            simp only [Array.getD_eq_getD_getElem?, Array.getElem?_eq_getElem h1, Option.getD_some] at hlx
            rw [hlx]; simp
          · have := hval i (by omega) hix
            simp only [Array.getD_eq_getD_getElem?, Array.getElem?_eq_getElem h1, Option.getD_some] at this
            rw [this, Array.getElem_setIfInBounds]
            rw [if_neg (fun e => hix e.symm)]; simp
            exact (by simp; omega)
      rw [hlL]
      exact wpAny_two (by omega) r2 r4 r6 (hf.2 (hR x (List.mem_cons_self ..) hlx))
  · unfold still; exact Nat.le_trans (List.count_le_length) (by simp)
  · exact fun j hj => absurd hj (by rw [zz]; simp)
  · exact fun k _ _ => zz k
  · exact ⟨⟨rfl, rfl, fun _ _ => rfl⟩, ⟨rfl, rfl, rfl, Nat.le_refl _, fun _ _ => rfl⟩, fun i _ hi => absurd hi (by rw [zz]; simp)⟩
end
end Go.Proofs.YtijodbjdajddoaaGreatDoor
end

section
/-
  iv: the law's tame, span.
-/
namespace Go.Proofs.YtijodbjdajddoaaGreatDoor
open Go.RowKit
set_option linter.unusedSimpArgs false
set_option linter.unusedVariables false
theorem ok32_takeI {xs ts : List Nat} (h : ok32 xs) (ht : xs.take 4 = ts) : ok32 ts := by
  subst ht; exact fun x hx => h x (List.mem_of_mem_take hx)
def tameI (e : Int) : Int := (if e < 0 then -(e + 1) else e) % 181 - 90
theorem tameI_bd (e : Int) : -90 ≤ tameI e ∧ tameI e ≤ 90 := by unfold tameI; omega
theorem tmI_of {z y : Int} (hz : z.natAbs < 2 ^ 128) (h0 : -90 ≤ y) (h1 : y ≤ 90) : Bd (-90) 218 (nm z) (nx z y) := by
  have hb : bl z ≤ 128 := blen_le hz
  exact Bd.of h0 (by omega) (isD_n z y)
theorem takeI {xs : List Nat} (h : ok32 xs) (s : Bool) : (sg s (val (xs.take 4))).natAbs < 2 ^ 128 := by
  rw [sg_abs]
  have h1 := val_lt (xs := xs.take 4) (fun x hx => h x (List.mem_of_mem_take hx))
  refine Nat.lt_of_lt_of_le h1 ?_
  rw [show (4294967296 : Nat) = 2 ^ 32 from rfl, ← Nat.pow_mul]
  exact Nat.pow_le_pow_right (by omega) (by rw [List.length_take]; omega)

set_option maxHeartbeats 4000000 in
set_option maxRecDepth 100000 in
theorem itame_n (A : Option Addr) (c : Nat) (s : Bool) (xs : List Nat) (y M E : Int) (w : World) (h : Dg w A c xs) (hT : T32 w) (hlx : xs.length ≤ 9223372036854775807) (y0 : -9223372036854775808 ≤ y) (y1 : y ≤ 9223372036854775807) (hM : nm (sg s (val (xs.take 4))) = M) (hE : nx (sg s (val (xs.take 4))) (tameI y) = E) (hy : y < 0):
    Calls Tryz.prog 37 #[.agg #[.bool s, .slice A xs.length c, .int .i64 y]] w fun e w' => Yr M E w e w' := by
  obtain ⟨ts, hts⟩ : ∃ t, xs.take 4 = t := ⟨_, rfl⟩
  have h6 := takeI h.2.1 s
  have hbd := tameI_bd y
  rw [hts] at hM hE h6
  obtain ⟨z, hz⟩ : ∃ z, sg s (val ts) = z := ⟨_, rfl⟩
  rw [hz] at hM hE h6
  obtain ⟨e, he⟩ : ∃ e, tameI y = e := ⟨_, rfl⟩
  rw [he] at hE hbd
  have hte : (-(y + 1)) % 181 - 90 = e := by rw [← he]; unfold tameI; rw [if_pos hy]
  have htl : ts.length = min xs.length 4 := by rw [← hts, List.length_take]; omega
  have hzl : (digs z.natAbs).length ≤ 7 := by
    have := len_bl z
    have : bl z ≤ 128 := blen_le h6
    omega
  have hq := (hM ▸ hE ▸ tmI_of h6 hbd.1 hbd.2).inR (by omega) (by omega)
  have hok := ok32_takeI h.2.1 hts
  have MK := Lib.hid (fun W (hW : Dg W A c ts) => rmake_any A c s ts W hW (by omega))
  rw [hz] at MK
  obtain ⟨K, hK⟩ : ∃ K : Int, min (xs.length : Int) 4 = K := ⟨_, rfl⟩
  have hKt : K.toNat = ts.length := by omega
  rw [← hKt] at MK
  have HK := Lib.hid hK
  have HC := Lib.hid h.1
  have DM := Lib.hid (fun W A c (hW : Dg W A c (digs z.natAbs)) (hT : T32 W) => r5make_yes A c (decide (z < 0)) (digs z.natAbs) e M E W hW (by omega) (by omega) (by omega) (by rw [sg_dz]; exact hM) (by rw [sg_dz]; exact hE) hq)
  have d1 : decide (y < 0) = true := by simp; omega
  have HT := Lib.hid hT
  clear hT
  have L0 := Lib.hid (((live_start w).add h).add (show Dg w A c ts by rw [← hts]; exact h.take 4))
  clear h h6 hM hE hz hq hok hzl he hts hK hKt
  go_enter Tryz.func37, Tryz.ntmps37
  go_wp2_with fail
  obtain ⟨v1, hW, hb, Rx_1, Rr_1⟩ := new2 w (.cells #[.bool s, .slice A xs.length c, .int .i64 y] 26) (.cells #[.bool false, .slice none 0 0, .int .i64 0] 26)
  rw [← hW]
  have L1 := ls L0 hb
  have Gx := gl0 L0.out
  have Gr := gl1 L0.out
  have Nxr : w.heap.size < w.heap.size + 1 := by omega
  clear hW hb
  obtain ⟨v, hv⟩ : ∃ v : Int, -(y + 1) = v := ⟨_, rfl⟩
  rw [hv]
  rw [hv] at hte
  have v0 : 0 ≤ v := by omega
  have hr : Int.tmod v 181 = v % 181 := Int.tmod_eq_emod_of_nonneg v0
  have hs : IntKind.i64.wrap (v % 181 - 90) = e := by rw [IntWalk.i64_in _ (by omega)]; exact hte
  have hmin : min (xs.length : Int) 4 = K := HK.out
  have k0 : 0 ≤ K := by have := HK.out; omega
  have k1 : K ≤ (c : Int) := by have := HK.out; have := HC.out; omega
  clear hv hte y0 y1 hy d1 hbd htl hlx
  refine wp_operands_late (W := v1) rfl 19 21 22 [0, 1, 2, 3, 4, 5, 6, 7, 8, 9, 10, 11, 12, 13, 14, 15, 16, 17, 18, 20] [14, 15, 16, 17, 18, 19, 20, 21, 22, 23, 24, 25, 26, 27, 28, 29, 30, 13, 31, 32, 4] (fun i u ww => match i with | 19 => u = .bool true | 0 => u = .pointer (some ⟨w.heap.size, 0, none⟩) | 1 => u = .pointer (some ⟨w.heap.size, 0, none⟩) | 2 => u = .bool s | 3 => u = .pointer (some ⟨w.heap.size, 0, none⟩) | 4 => u = .pointer (some ⟨w.heap.size, 1, none⟩) | 5 => u = .slice A xs.length c | 6 => u = .pointer (some ⟨w.heap.size, 0, none⟩) | 7 => u = .pointer (some ⟨w.heap.size, 1, none⟩) | 8 => u = .slice A xs.length c | 9 => u = .int .i64 xs.length | 10 => u = .int .i64 K | 11 => u = .slice A K.toNat c | 12 => ∃ A c, u = .agg #[.bool (decide (z < 0)), .slice A (digs z.natAbs).length c] ∧ Dg ww A c (digs z.natAbs) | 13 => u = .int .i64 v | 14 => u = .int .i64 (v % 181) | 15 => u = .int .i64 e | 16 => ∃ A c, u = .tuple #[.agg #[.bool (decide (M < 0)), .slice A (digs M.natAbs).length c, .int .i64 E], .bool true] ∧ Dg ww A c (digs M.natAbs) | 17 => ∃ A c, u = .tuple #[.agg #[.bool (decide (M < 0)), .slice A (digs M.natAbs).length c, .int .i64 E], .bool true] ∧ Dg ww A c (digs M.natAbs) | 18 => ∃ A c, u = .agg #[.bool (decide (M < 0)), .slice A (digs M.natAbs).length c, .int .i64 E] ∧ Dg ww A c (digs M.natAbs) | 20 => ∃ g, u = .pointer (some ⟨g, 0, none⟩) ∧ ww.heap[g]? = some (.cells #[.bool false, .slice none 0 0, .int .i64 0] 26 (0, 0)) ∧ v1.heap.size ≤ g | _ => True)
    (by kernel_rfl) (by kernel_rfl) (by decide) (by kernel_rfl) (by kernel_rfl) (by kernel_rfl) (by decide) (by kernel_rfl) (by kernel_rfl) (by kernel_rfl) (by kernel_rfl) (by kernel_rfl) (by kernel_rfl) (by kernel_rfl) (by kernel_rfl) ?_ ?_ ?_
  · intro i u x y hi h hb
    have hi' : i = 19 ∨ i = 0 ∨ i = 1 ∨ i = 2 ∨ i = 3 ∨ i = 4 ∨ i = 5 ∨ i = 6 ∨ i = 7 ∨ i = 8 ∨ i = 9 ∨ i = 10 ∨ i = 11 ∨ i = 12 ∨ i = 13 ∨ i = 14 ∨ i = 15 ∨ i = 16 ∨ i = 17 ∨ i = 18 ∨ i = 20 := by simpa using hi
    rcases hi' with rfl | rfl | rfl | rfl | rfl | rfl | rfl | rfl | rfl | rfl | rfl | rfl | rfl | rfl | rfl | rfl | rfl | rfl | rfl | rfl | rfl
    · exact h
    · exact h
    · exact h
    · exact h
    · exact h
    · exact h
    · exact h
    · exact h
    · exact h
    · exact h
    · exact h
    · exact h
    · exact h
    · obtain ⟨A, c, e, hd⟩ := h
      exact ⟨A, c, e, hd.below hb⟩
    · exact h
    · exact h
    · exact h
    · obtain ⟨A, c, e, hd⟩ := h
      exact ⟨A, c, e, hd.below hb⟩
    · obtain ⟨A, c, e, hd⟩ := h
      exact ⟨A, c, e, hd.below hb⟩
    · obtain ⟨A, c, e, hd⟩ := h
      exact ⟨A, c, e, hd.below hb⟩
    · obtain ⟨g, e, hg, hge⟩ := h
      exact ⟨g, e, cells_of hg hb, hge⟩
  · intro i a x KK hi hF hb hw hK
    have hi' : i = 19 ∨ i = 0 ∨ i = 1 ∨ i = 2 ∨ i = 3 ∨ i = 4 ∨ i = 5 ∨ i = 6 ∨ i = 7 ∨ i = 8 ∨ i = 9 ∨ i = 10 ∨ i = 11 ∨ i = 12 ∨ i = 13 ∨ i = 14 ∨ i = 15 ∨ i = 16 ∨ i = 17 ∨ i = 18 ∨ i = 20 := by simpa using hi
    rcases hi' with rfl | rfl | rfl | rfl | rfl | rfl | rfl | rfl | rfl | rfl | rfl | rfl | rfl | rfl | rfl | rfl | rfl | rfl | rfl | rfl | rfl
    · simp only [wpOp, List.getElem?_toArray, List.getElem?_cons_succ, List.getElem?_cons_zero, Region.wanted, if_true]
      refine Or.inl ?_
      obtain ⟨A', c', e0, hd⟩ := hw 17 (by kernel_rfl)
      have e0 : a.eval (.tmp 13) = _ := e0
      clear hw hF
      simp only [Oper.wp, execOp]
      rw [e0]
      go_simp
      exact hK _ x (by first | rfl | simp) (Below.refl _ _)
    · simp only [wpOp, List.getElem?_toArray, List.getElem?_cons_zero, Region.wanted, if_true]
      refine Or.inl ?_
      have e0 : a.eval (.tmp 1) = .pointer (some ⟨w.heap.size, 0, none⟩) := hF.2.2 1 (by decide)
      clear hw hF
      simp only [Oper.wp, execOp]
      rw [e0]
      go_simp
      exact hK _ x (by first | rfl | simp) (Below.refl _ _)
    · simp only [wpOp, List.getElem?_toArray, List.getElem?_cons_succ, List.getElem?_cons_zero, Region.wanted, if_true]
      refine Or.inl ?_
      have e0 : a.eval (.tmp 14) = .pointer (some ⟨w.heap.size, 0, none⟩) := hw 0 (by kernel_rfl)
      clear hw hF
      simp only [Oper.wp, execOp]
      rw [e0]
      go_simp
      exact hK _ x (by first | rfl | simp) (Below.refl _ _)
    · simp only [wpOp, List.getElem?_toArray, List.getElem?_cons_succ, List.getElem?_cons_zero, Region.wanted, if_true]
      refine Or.inl ?_
      have e0 : a.eval (.tmp 15) = .pointer (some ⟨w.heap.size, 0, none⟩) := hw 1 (by kernel_rfl)
      have f0 := row_cell Rx_1.out hb 0
      have f1 := row_cell Rx_1.out hb 1
      have f2 := row_cell Rx_1.out hb 2
      simp only [List.getElem?_toArray, List.getElem?_cons_succ, List.getElem?_cons_zero] at f0 f1 f2
      clear hw hF
      simp only [Oper.wp, execOp]
      rw [e0]
      go_simp
      exact hK _ x (by first | rfl | simp) (Below.refl _ _)
    · simp only [wpOp, List.getElem?_toArray, List.getElem?_cons_succ, List.getElem?_cons_zero, Region.wanted, if_true]
      refine Or.inl ?_
      have e0 : a.eval (.tmp 1) = .pointer (some ⟨w.heap.size, 0, none⟩) := hF.2.2 1 (by decide)
      clear hw hF
      simp only [Oper.wp, execOp]
      rw [e0]
      go_simp
      exact hK _ x (by first | rfl | simp) (Below.refl _ _)
    · simp only [wpOp, List.getElem?_toArray, List.getElem?_cons_succ, List.getElem?_cons_zero, Region.wanted, if_true]
      refine Or.inl ?_
      have e0 : a.eval (.tmp 17) = .pointer (some ⟨w.heap.size, 0, none⟩) := hw 3 (by kernel_rfl)
      clear hw hF
      simp only [Oper.wp, execOp]
      rw [e0]
      go_simp
      exact hK _ x (by first | rfl | simp) (Below.refl _ _)
    · simp only [wpOp, List.getElem?_toArray, List.getElem?_cons_succ, List.getElem?_cons_zero, Region.wanted, if_true]
      refine Or.inl ?_
      have e0 : a.eval (.tmp 18) = .pointer (some ⟨w.heap.size, 1, none⟩) := hw 4 (by kernel_rfl)
      have f0 := row_cell Rx_1.out hb 0
      have f1 := row_cell Rx_1.out hb 1
      have f2 := row_cell Rx_1.out hb 2
      simp only [List.getElem?_toArray, List.getElem?_cons_succ, List.getElem?_cons_zero] at f0 f1 f2
      clear hw hF
      simp only [Oper.wp, execOp]
      rw [e0]
      go_simp
      exact hK _ x (by first | rfl | simp) (Below.refl _ _)
    · simp only [wpOp, List.getElem?_toArray, List.getElem?_cons_succ, List.getElem?_cons_zero, Region.wanted, if_true]
      refine Or.inl ?_
      have e0 : a.eval (.tmp 1) = .pointer (some ⟨w.heap.size, 0, none⟩) := hF.2.2 1 (by decide)
      clear hw hF
      simp only [Oper.wp, execOp]
      rw [e0]
      go_simp
      exact hK _ x (by first | rfl | simp) (Below.refl _ _)
    · simp only [wpOp, List.getElem?_toArray, List.getElem?_cons_succ, List.getElem?_cons_zero, Region.wanted, if_true]
      refine Or.inl ?_
      have e0 : a.eval (.tmp 20) = .pointer (some ⟨w.heap.size, 0, none⟩) := hw 6 (by kernel_rfl)
      clear hw hF
      simp only [Oper.wp, execOp]
      rw [e0]
      go_simp
      exact hK _ x (by first | rfl | simp) (Below.refl _ _)
    · simp only [wpOp, List.getElem?_toArray, List.getElem?_cons_succ, List.getElem?_cons_zero, Region.wanted, if_true]
      refine Or.inl ?_
      have e0 : a.eval (.tmp 21) = .pointer (some ⟨w.heap.size, 1, none⟩) := hw 7 (by kernel_rfl)
      have f0 := row_cell Rx_1.out hb 0
      have f1 := row_cell Rx_1.out hb 1
      have f2 := row_cell Rx_1.out hb 2
      simp only [List.getElem?_toArray, List.getElem?_cons_succ, List.getElem?_cons_zero] at f0 f1 f2
      clear hw hF
      simp only [Oper.wp, execOp]
      rw [e0]
      go_simp
      exact hK _ x (by first | rfl | simp) (Below.refl _ _)
    · simp only [wpOp, List.getElem?_toArray, List.getElem?_cons_succ, List.getElem?_cons_zero, Region.wanted, if_true]
      refine Or.inl ?_
      have e0 : a.tmps.getD 22 undef = .slice A xs.length c := hw 8 (by kernel_rfl)
      clear hw hF
      simp only [Oper.wp, execOp]
      go_simp
      exact hK _ x (by first | rfl | simp) (Below.refl _ _)
    · simp only [wpOp, List.getElem?_toArray, List.getElem?_cons_succ, List.getElem?_cons_zero, Region.wanted, if_true]
      refine Or.inl ?_
      have e0 : a.tmps.getD 23 undef = .int .i64 xs.length := hw 9 (by kernel_rfl)
      clear hw hF
      simp only [Oper.wp, execOp]
      go_simp
      exact hK _ x (by first | rfl | simp) (Below.refl _ _)
    · simp only [wpOp, List.getElem?_toArray, List.getElem?_cons_succ, List.getElem?_cons_zero, Region.wanted, if_true]
      refine Or.inl ?_
      have e0 : a.tmps.getD 19 undef = .slice A xs.length c := hw 5 (by kernel_rfl)
      have e1 : a.tmps.getD 24 undef = .int .i64 K := hw 10 (by kernel_rfl)
      clear hw hF
      simp only [Oper.wp, execOp]
      go_simp
      exact hK _ x (by first | rfl | simp) (Below.refl _ _)
    · simp only [wpOp, List.getElem?_toArray, List.getElem?_cons_succ, List.getElem?_cons_zero, Region.wanted, if_true]
      refine Or.inl ?_
      have e0 : a.tmps.getD 16 undef = .bool s := hw 2 (by kernel_rfl)
      have e1 : a.tmps.getD 25 undef = .slice A K.toNat c := hw 11 (by kernel_rfl)
      clear hw hF
      simp only [Oper.wp, execOp]
      go_simp
      refine (MK.out _ ((L1.out.step hb).get (A := A) (c := c) (xs := ts) (by simp))).mono ?_
      rintro e y ⟨A2, c2, rfl, hd2, hbb⟩
      exact hK _ y ⟨A2, c2, rfl, hd2⟩ hbb
    · simp only [wpOp, List.getElem?_toArray, List.getElem?_cons_succ, List.getElem?_cons_zero, Region.wanted, if_true]
      refine Or.inl ?_
      have e0 : a.eval (.tmp 3) = .int .i64 v := hF.2.2 3 (by decide)
      clear hw hF
      simp only [Oper.wp, execOp]
      rw [e0]
      go_simp
      exact hK _ x (by first | rfl | simp) (Below.refl _ _)
    · simp only [wpOp, List.getElem?_toArray, List.getElem?_cons_succ, List.getElem?_cons_zero, Region.wanted, if_true]
      refine Or.inl ?_
      have e0 : a.eval (.tmp 27) = .int .i64 v := hw 13 (by kernel_rfl)
      clear hw hF
      simp only [Oper.wp, execOp]
      rw [e0]
      go_simp
      exact hK _ x (by first | rfl | simp) (Below.refl _ _)
    · simp only [wpOp, List.getElem?_toArray, List.getElem?_cons_succ, List.getElem?_cons_zero, Region.wanted, if_true]
      refine Or.inl ?_
      have e0 : a.eval (.tmp 28) = .int .i64 (v % 181) := hw 14 (by kernel_rfl)
      clear hw hF
      simp only [Oper.wp, execOp]
      rw [e0]
      go_simp
      exact hK _ x (by first | rfl | simp) (Below.refl _ _)
    · simp only [wpOp, List.getElem?_toArray, List.getElem?_cons_succ, List.getElem?_cons_zero, Region.wanted, if_true]
      refine Or.inl ?_
      obtain ⟨A', c', e0, hd⟩ := hw 12 (by kernel_rfl)
      have e0 : a.tmps.getD 26 undef = _ := e0
      have e1 : a.tmps.getD 29 undef = .int .i64 e := hw 15 (by kernel_rfl)
      clear hw hF
      simp only [Oper.wp, execOp]
      go_simp
      refine (DM.out _ A' c' hd (t32_live HT.out (L1.out.step hb))).mono ?_
      rintro e y ⟨A2, c2, rfl, hd2, hbb⟩
      exact hK _ y ⟨A2, c2, rfl, hd2⟩ hbb
    · simp only [wpOp, List.getElem?_toArray, List.getElem?_cons_succ, List.getElem?_cons_zero, Region.wanted, if_true]
      refine Or.inl ?_
      obtain ⟨A', c', e0, hd⟩ := hw 16 (by kernel_rfl)
      have e0 : a.eval (.tmp 30) = _ := e0
      clear hw hF
      simp only [Oper.wp, execOp]
      rw [e0]
      go_simp
      exact hK _ x ⟨A', c', rfl, hd⟩ (Below.refl _ _)
    · simp only [wpOp, List.getElem?_toArray, List.getElem?_cons_succ, List.getElem?_cons_zero, Region.wanted, if_true]
      refine Or.inl ?_
      obtain ⟨A', c', e0, hd⟩ := hw 17 (by kernel_rfl)
      have e0 : a.eval (.tmp 13) = _ := e0
      clear hw hF
      simp only [Oper.wp, execOp]
      rw [e0]
      go_simp
      exact hK _ x ⟨A', c', rfl, hd⟩ (Below.refl _ _)
    · simp only [wpOp, List.getElem?_toArray, List.getElem?_cons_succ, List.getElem?_cons_zero, Region.wanted, if_true]
      refine Or.inl ?_
      clear hw hF
      simp only [Oper.wp, execOp]
      go_simp
      exact hK _ _ ⟨_, rfl, heap_alloc_new _ _, hb.size⟩ (below1 _ _)
  · intro a x hF0 hb hR
    have hF : Fr6 [32, 14, 15, 16, 17, 18, 19, 20, 21, 22, 23, 24, 25, 26, 27, 28, 29, 30, 13, 31, 4] _ a := hF0
    have e0 : a.tmps.getD 14 undef = .pointer (some ⟨w.heap.size, 0, none⟩) := hR 0 (by decide)
    have e1 : a.tmps.getD 15 undef = .pointer (some ⟨w.heap.size, 0, none⟩) := hR 1 (by decide)
    have e2 : a.tmps.getD 16 undef = .bool s := hR 2 (by decide)
    have e3 : a.tmps.getD 17 undef = .pointer (some ⟨w.heap.size, 0, none⟩) := hR 3 (by decide)
    have e4 : a.tmps.getD 18 undef = .pointer (some ⟨w.heap.size, 1, none⟩) := hR 4 (by decide)
    have e5 : a.tmps.getD 19 undef = .slice A xs.length c := hR 5 (by decide)
    have e6 : a.tmps.getD 20 undef = .pointer (some ⟨w.heap.size, 0, none⟩) := hR 6 (by decide)
    have e7 : a.tmps.getD 21 undef = .pointer (some ⟨w.heap.size, 1, none⟩) := hR 7 (by decide)
    have e8 : a.tmps.getD 22 undef = .slice A xs.length c := hR 8 (by decide)
    have e9 : a.tmps.getD 23 undef = .int .i64 xs.length := hR 9 (by decide)
    have e10 : a.tmps.getD 24 undef = .int .i64 K := hR 10 (by decide)
    have e11 : a.tmps.getD 25 undef = .slice A K.toNat c := hR 11 (by decide)
    obtain ⟨B12, d12, h12, hd12⟩ := hR 12 (by decide)
    have e12 : a.tmps.getD 26 undef = _ := h12
    have e13 : a.tmps.getD 27 undef = .int .i64 v := hR 13 (by decide)
    have e14 : a.tmps.getD 28 undef = .int .i64 (v % 181) := hR 14 (by decide)
    have e15 : a.tmps.getD 29 undef = .int .i64 e := hR 15 (by decide)
    obtain ⟨B16, d16, h16, hd16⟩ := hR 16 (by decide)
    have e16 : a.tmps.getD 30 undef = _ := h16
    obtain ⟨B17, d17, h17, hd17⟩ := hR 17 (by decide)
    have e17 : a.tmps.getD 13 undef = _ := h17
    obtain ⟨B18, d18, h18, hd18⟩ := hR 18 (by decide)
    have e18 : a.tmps.getD 31 undef = _ := h18
    obtain ⟨g20, h20, hg20, hge20⟩ := hR 20 (by decide)
    have e20 : a.tmps.getD 4 undef = _ := h20
    refine ⟨⟨?_, ?_⟩, fun hx => ?_⟩
    · rw [hF.fold (by kernel_rfl)]
      simp only [List.foldl_cons, List.foldl_nil, e0, e1, e2, e3, e4, e5, e6, e7, e8, e9, e10, e11, e12, e13, e14, e15, e16, e17, e18, e20]
      generalize a.tmps.getD 32 undef = vx at *
      simp only [Act.put, List.setIfInBounds_toArray, List.set_cons_zero, List.set_cons_succ]
      clear e0 e1 e2 e3 e4 e5 e6 e7 e8 e9 e10 e11 e12 e13 e14 e15 e16 e17 e18 e20 hR hF hF0 h12 h16 h17 h18 h20
      obtain ⟨w2, hW⟩ : ∃ W : World, W = x := ⟨_, rfl⟩
      rw [← hW]
      rw [← hW] at hb hd12 hd16 hd17 hd18 hg20
      have L2 := Lib.hid (((((L1.out.step hb).add hd12).add hd16).add hd17).add hd18)
      have Rx_2 := co Rx_1 hb
      have Rr_2 := co Rr_1 hb
      have Rq20_2 := Lib.hid hg20
      have Gq20 : w.heap.size ≤ g20 := Nat.le_trans L1.out.1.size hge20
      have Nxq20 : w.heap.size < g20 := by have := heap_lt Rx_1.out; omega
      have Nrq20 : w.heap.size + 1 < g20 := by have := heap_lt Rr_1.out; omega
      clear hW hb hd12 hd16 hd17 hd18 hg20 hge20
      obtain ⟨fq200, zq200, fq201, zq201, fq202, zq202, xq20⟩ := ly3 Rq20_2.out
      simp only [wpOps_cons]
      simp only [wpOp, List.getElem?_toArray, List.getElem?_cons_succ, List.getElem?_cons_zero, Region.wanted, if_true]
      refine Or.inl ?_
      simp only [Oper.wp, execOp]
      go_simp
      simp only [wpOps_cons]
      simp only [wpOp, List.getElem?_toArray, List.getElem?_cons_succ, List.getElem?_cons_zero, Region.wanted, if_true]
      refine Or.inl ?_
      simp only [Oper.wp, execOp]
      go_simp
      simp only [wpOps_cons]
      simp only [wpOp, List.getElem?_toArray, List.getElem?_cons_succ, List.getElem?_cons_zero, Region.wanted, if_true]
      refine Or.inl ?_
      simp only [Oper.wp, execOp]
      go_simp
      try simp only [wpOps]
      clear fq200 zq200 fq201 zq201 fq202 zq202 xq20
      obtain ⟨w3, hW⟩ : ∃ W : World, W = (((w2.setCell ⟨g20, 0, none⟩ (.bool (decide (M < 0)))).setCell ⟨g20, 1, none⟩ (.slice B18 (digs M.natAbs).length d18)).setCell ⟨g20, 2, none⟩ (.int .i64 E)) := ⟨_, rfl⟩
      rw [← hW]
      have hO : Only (g20) w2 w3 := by rw [hW]; exact ((((Only.refl (g20) w2).setCell 0 _).setCell 1 _).setCell 2 _)
      have L3 := Lib.hid (live_only L2.out hO Rq20_2.out noint_dy Gq20)
      have Rx_3 := Lib.hid ((hO.block _ (by omega)).trans Rx_2.out)
      have Rr_3 := Lib.hid ((hO.block _ (by omega)).trans Rr_2.out)
      have Rq20_3 := Lib.hid (show w3.heap[g20]? = some (.cells #[.bool (decide (M < 0)), .slice B18 (digs M.natAbs).length d18, .int .i64 E] 26 (0, 0)) by rw [hW]; exact (heap_setCell_same _ _ 2 _ _ _ (heap_setCell_same _ _ 1 _ _ _ (heap_setCell_same _ _ 0 _ _ _ Rq20_2.out))))
      clear hW hO
      obtain ⟨fr0, zr0, fr1, zr1, fr2, zr2, xr⟩ := ly3 Rr_3.out
      obtain ⟨fq200, zq200, fq201, zq201, fq202, zq202, xq20⟩ := ly3 Rq20_3.out
      go_wp2
      refine bodyPost_ret (v := .agg #[.bool (decide (M < 0)), .slice B18 (digs M.natAbs).length d18, .int .i64 E]) (by simp [results, Tryz.results37, go_sem, fr0, fr1, fr2, fq200, fq201, fq202]) rfl ?_
      
      refine ⟨B18, d18, rfl, ?_, ?_⟩
      · exact (fin3 L3.out Rr_3.out noint3 Gr).get (A := B18) (c := d18) (xs := digs M.natAbs) (by simp)
      · exact (fin3 L3.out Rr_3.out noint3 Gr).1
    · rw [hF.fold (by kernel_rfl)]
      simp only [List.foldl_cons, List.foldl_nil, e0, e1, e2, e3, e4, e5, e6, e7, e8, e9, e10, e11, e12, e13, e14, e15, e16, e17, e18, e20]
      generalize a.tmps.getD 32 undef = vx at *
      simp only [Act.put, List.setIfInBounds_toArray, List.set_cons_zero, List.set_cons_succ]
      clear e0 e1 e2 e3 e4 e5 e6 e7 e8 e9 e10 e11 e12 e13 e14 e15 e16 e17 e18 e20 hR hF hF0 h12 h16 h17 h18 h20
      obtain ⟨w2, hW⟩ : ∃ W : World, W = x := ⟨_, rfl⟩
      rw [← hW]
      rw [← hW] at hb hd12 hd16 hd17 hd18 hg20
      have L2 := Lib.hid (((((L1.out.step hb).add hd12).add hd16).add hd17).add hd18)
      have Rx_2 := co Rx_1 hb
      have Rr_2 := co Rr_1 hb
      have Rq20_2 := Lib.hid hg20
      have Gq20 : w.heap.size ≤ g20 := Nat.le_trans L1.out.1.size hge20
      have Nxq20 : w.heap.size < g20 := by have := heap_lt Rx_1.out; omega
      have Nrq20 : w.heap.size + 1 < g20 := by have := heap_lt Rr_1.out; omega
      clear hW hb hd12 hd16 hd17 hd18 hg20 hge20
      obtain ⟨fq200, zq200, fq201, zq201, fq202, zq202, xq20⟩ := ly3 Rq20_2.out
      simp only [wpOps_cons]
      simp only [wpOp, List.getElem?_toArray, List.getElem?_cons_succ, List.getElem?_cons_zero, Region.wanted, if_true]
      refine Or.inl ?_
      simp only [Oper.wp, execOp]
      go_simp
      simp only [wpOps_cons]
      simp only [wpOp, List.getElem?_toArray, List.getElem?_cons_succ, List.getElem?_cons_zero, Region.wanted, if_true]
      refine Or.inl ?_
      simp only [Oper.wp, execOp]
      go_simp
      simp only [wpOps_cons]
      simp only [wpOp, List.getElem?_toArray, List.getElem?_cons_succ, List.getElem?_cons_zero, Region.wanted, if_true]
      refine Or.inl ?_
      simp only [Oper.wp, execOp]
      go_simp
      try simp only [wpOps]
      clear fq200 zq200 fq201 zq201 fq202 zq202 xq20
      obtain ⟨w3, hW⟩ : ∃ W : World, W = (((w2.setCell ⟨g20, 0, none⟩ (.bool (decide (M < 0)))).setCell ⟨g20, 1, none⟩ (.slice B18 (digs M.natAbs).length d18)).setCell ⟨g20, 2, none⟩ (.int .i64 E)) := ⟨_, rfl⟩
      rw [← hW]
      have hO : Only (g20) w2 w3 := by rw [hW]; exact ((((Only.refl (g20) w2).setCell 0 _).setCell 1 _).setCell 2 _)
      have L3 := Lib.hid (live_only L2.out hO Rq20_2.out noint_dy Gq20)
      have Rx_3 := Lib.hid ((hO.block _ (by omega)).trans Rx_2.out)
      have Rr_3 := Lib.hid ((hO.block _ (by omega)).trans Rr_2.out)
      have Rq20_3 := Lib.hid (show w3.heap[g20]? = some (.cells #[.bool (decide (M < 0)), .slice B18 (digs M.natAbs).length d18, .int .i64 E] 26 (0, 0)) by rw [hW]; exact (heap_setCell_same _ _ 2 _ _ _ (heap_setCell_same _ _ 1 _ _ _ (heap_setCell_same _ _ 0 _ _ _ Rq20_2.out))))
      clear hW hO
      obtain ⟨fr0, zr0, fr1, zr1, fr2, zr2, xr⟩ := ly3 Rr_3.out
      obtain ⟨fq200, zq200, fq201, zq201, fq202, zq202, xq20⟩ := ly3 Rq20_3.out
      go_wp2
      refine bodyPost_ret (v := .agg #[.bool (decide (M < 0)), .slice B18 (digs M.natAbs).length d18, .int .i64 E]) (by simp [results, Tryz.results37, go_sem, fr0, fr1, fr2, fq200, fq201, fq202]) rfl ?_
      
      refine ⟨B18, d18, rfl, ?_, ?_⟩
      · exact (fin3 L3.out Rr_3.out noint3 Gr).get (A := B18) (c := d18) (xs := digs M.natAbs) (by simp)
      · exact (fin3 L3.out Rr_3.out noint3 Gr).1
    · have e19 : a.tmps.getD 32 undef = .bool true := hx
      rw [hF.fold (by kernel_rfl)]
      simp only [List.foldl_cons, List.foldl_nil, e0, e1, e2, e3, e4, e5, e6, e7, e8, e9, e10, e11, e12, e13, e14, e15, e16, e17, e18, e20, e19]
      simp only [Act.put, List.setIfInBounds_toArray, List.set_cons_zero, List.set_cons_succ]
      clear e0 e1 e2 e3 e4 e5 e6 e7 e8 e9 e10 e11 e12 e13 e14 e15 e16 e17 e18 e20 e19 hR hF hF0 h12 h16 h17 h18 h20 hx
      obtain ⟨w2, hW⟩ : ∃ W : World, W = x := ⟨_, rfl⟩
      rw [← hW]
      rw [← hW] at hb hd12 hd16 hd17 hd18 hg20
      have L2 := Lib.hid (((((L1.out.step hb).add hd12).add hd16).add hd17).add hd18)
      have Rx_2 := co Rx_1 hb
      have Rr_2 := co Rr_1 hb
      have Rq20_2 := Lib.hid hg20
      have Gq20 : w.heap.size ≤ g20 := Nat.le_trans L1.out.1.size hge20
      have Nxq20 : w.heap.size < g20 := by have := heap_lt Rx_1.out; omega
      have Nrq20 : w.heap.size + 1 < g20 := by have := heap_lt Rr_1.out; omega
      clear hW hb hd12 hd16 hd17 hd18 hg20 hge20
      obtain ⟨fq200, zq200, fq201, zq201, fq202, zq202, xq20⟩ := ly3 Rq20_2.out
      simp only [wpOps_cons]
      simp only [wpOp, List.getElem?_toArray, List.getElem?_cons_succ, List.getElem?_cons_zero, Region.wanted, if_true]
      refine Or.inl ?_
      simp only [Oper.wp, execOp]
      go_simp
      simp only [wpOps_cons]
      simp only [wpOp, List.getElem?_toArray, List.getElem?_cons_succ, List.getElem?_cons_zero, Region.wanted, if_true]
      refine Or.inl ?_
      simp only [Oper.wp, execOp]
      go_simp
      try simp only [wpOps]
      clear fq200 zq200 fq201 zq201 fq202 zq202 xq20
      obtain ⟨w3, hW⟩ : ∃ W : World, W = (((w2.setCell ⟨g20, 0, none⟩ (.bool (decide (M < 0)))).setCell ⟨g20, 1, none⟩ (.slice B18 (digs M.natAbs).length d18)).setCell ⟨g20, 2, none⟩ (.int .i64 E)) := ⟨_, rfl⟩
      rw [← hW]
      have hO : Only (g20) w2 w3 := by rw [hW]; exact ((((Only.refl (g20) w2).setCell 0 _).setCell 1 _).setCell 2 _)
      have L3 := Lib.hid (live_only L2.out hO Rq20_2.out noint_dy Gq20)
      have Rx_3 := Lib.hid ((hO.block _ (by omega)).trans Rx_2.out)
      have Rr_3 := Lib.hid ((hO.block _ (by omega)).trans Rr_2.out)
      have Rq20_3 := Lib.hid (show w3.heap[g20]? = some (.cells #[.bool (decide (M < 0)), .slice B18 (digs M.natAbs).length d18, .int .i64 E] 26 (0, 0)) by rw [hW]; exact (heap_setCell_same _ _ 2 _ _ _ (heap_setCell_same _ _ 1 _ _ _ (heap_setCell_same _ _ 0 _ _ _ Rq20_2.out))))
      clear hW hO
      obtain ⟨fr0, zr0, fr1, zr1, fr2, zr2, xr⟩ := ly3 Rr_3.out
      obtain ⟨fq200, zq200, fq201, zq201, fq202, zq202, xq20⟩ := ly3 Rq20_3.out
      go_wp2
      refine bodyPost_ret (v := .agg #[.bool (decide (M < 0)), .slice B18 (digs M.natAbs).length d18, .int .i64 E]) (by simp [results, Tryz.results37, go_sem, fr0, fr1, fr2, fq200, fq201, fq202]) rfl ?_
      
      refine ⟨B18, d18, rfl, ?_, ?_⟩
      · exact (fin3 L3.out Rr_3.out noint3 Gr).get (A := B18) (c := d18) (xs := digs M.natAbs) (by simp)
      · exact (fin3 L3.out Rr_3.out noint3 Gr).1

set_option maxHeartbeats 4000000 in
set_option maxRecDepth 100000 in
theorem itame_p (A : Option Addr) (c : Nat) (s : Bool) (xs : List Nat) (y M E : Int) (w : World) (h : Dg w A c xs) (hT : T32 w) (hlx : xs.length ≤ 9223372036854775807) (y0 : -9223372036854775808 ≤ y) (y1 : y ≤ 9223372036854775807) (hM : nm (sg s (val (xs.take 4))) = M) (hE : nx (sg s (val (xs.take 4))) (tameI y) = E) (hy : 0 ≤ y):
    Calls Tryz.prog 37 #[.agg #[.bool s, .slice A xs.length c, .int .i64 y]] w fun e w' => Yr M E w e w' := by
  obtain ⟨ts, hts⟩ : ∃ t, xs.take 4 = t := ⟨_, rfl⟩
  have h6 := takeI h.2.1 s
  have hbd := tameI_bd y
  rw [hts] at hM hE h6
  obtain ⟨z, hz⟩ : ∃ z, sg s (val ts) = z := ⟨_, rfl⟩
  rw [hz] at hM hE h6
  obtain ⟨e, he⟩ : ∃ e, tameI y = e := ⟨_, rfl⟩
  rw [he] at hE hbd
  have hte : (y) % 181 - 90 = e := by rw [← he]; unfold tameI; rw [if_neg (by omega)]
  have htl : ts.length = min xs.length 4 := by rw [← hts, List.length_take]; omega
  have hzl : (digs z.natAbs).length ≤ 7 := by
    have := len_bl z
    have : bl z ≤ 128 := blen_le h6
    omega
  have hq := (hM ▸ hE ▸ tmI_of h6 hbd.1 hbd.2).inR (by omega) (by omega)
  have hok := ok32_takeI h.2.1 hts
  have MK := Lib.hid (fun W (hW : Dg W A c ts) => rmake_any A c s ts W hW (by omega))
  rw [hz] at MK
  obtain ⟨K, hK⟩ : ∃ K : Int, min (xs.length : Int) 4 = K := ⟨_, rfl⟩
  have hKt : K.toNat = ts.length := by omega
  rw [← hKt] at MK
  have HK := Lib.hid hK
  have HC := Lib.hid h.1
  have DM := Lib.hid (fun W A c (hW : Dg W A c (digs z.natAbs)) (hT : T32 W) => r5make_yes A c (decide (z < 0)) (digs z.natAbs) e M E W hW (by omega) (by omega) (by omega) (by rw [sg_dz]; exact hM) (by rw [sg_dz]; exact hE) hq)
  have d1 : decide (y < 0) = false := by simp; omega
  have HT := Lib.hid hT
  clear hT
  have L0 := Lib.hid (((live_start w).add h).add (show Dg w A c ts by rw [← hts]; exact h.take 4))
  clear h h6 hM hE hz hq hok hzl he hts hK hKt
  go_enter Tryz.func37, Tryz.ntmps37
  go_wp2_with fail
  obtain ⟨v1, hW, hb, Rx_1, Rr_1⟩ := new2 w (.cells #[.bool s, .slice A xs.length c, .int .i64 y] 26) (.cells #[.bool false, .slice none 0 0, .int .i64 0] 26)
  rw [← hW]
  have L1 := ls L0 hb
  have Gx := gl0 L0.out
  have Gr := gl1 L0.out
  have Nxr : w.heap.size < w.heap.size + 1 := by omega
  clear hW hb
  obtain ⟨v, hv⟩ : ∃ v : Int, y = v := ⟨_, rfl⟩
  rw [hv]
  rw [hv] at hte
  have v0 : 0 ≤ v := by omega
  have hr : Int.tmod v 181 = v % 181 := Int.tmod_eq_emod_of_nonneg v0
  have hs : IntKind.i64.wrap (v % 181 - 90) = e := by rw [IntWalk.i64_in _ (by omega)]; exact hte
  have hmin : min (xs.length : Int) 4 = K := HK.out
  have k0 : 0 ≤ K := by have := HK.out; omega
  have k1 : K ≤ (c : Int) := by have := HK.out; have := HC.out; omega
  clear hv hte y0 y1 hy d1 hbd htl hlx
  refine wp_operands_late (W := v1) rfl 19 21 22 [0, 1, 2, 3, 4, 5, 6, 7, 8, 9, 10, 11, 12, 13, 14, 15, 16, 17, 18, 20] [14, 15, 16, 17, 18, 19, 20, 21, 22, 23, 24, 25, 26, 27, 28, 29, 30, 13, 31, 32, 4] (fun i u ww => match i with | 19 => u = .bool true | 0 => u = .pointer (some ⟨w.heap.size, 0, none⟩) | 1 => u = .pointer (some ⟨w.heap.size, 0, none⟩) | 2 => u = .bool s | 3 => u = .pointer (some ⟨w.heap.size, 0, none⟩) | 4 => u = .pointer (some ⟨w.heap.size, 1, none⟩) | 5 => u = .slice A xs.length c | 6 => u = .pointer (some ⟨w.heap.size, 0, none⟩) | 7 => u = .pointer (some ⟨w.heap.size, 1, none⟩) | 8 => u = .slice A xs.length c | 9 => u = .int .i64 xs.length | 10 => u = .int .i64 K | 11 => u = .slice A K.toNat c | 12 => ∃ A c, u = .agg #[.bool (decide (z < 0)), .slice A (digs z.natAbs).length c] ∧ Dg ww A c (digs z.natAbs) | 13 => u = .int .i64 v | 14 => u = .int .i64 (v % 181) | 15 => u = .int .i64 e | 16 => ∃ A c, u = .tuple #[.agg #[.bool (decide (M < 0)), .slice A (digs M.natAbs).length c, .int .i64 E], .bool true] ∧ Dg ww A c (digs M.natAbs) | 17 => ∃ A c, u = .tuple #[.agg #[.bool (decide (M < 0)), .slice A (digs M.natAbs).length c, .int .i64 E], .bool true] ∧ Dg ww A c (digs M.natAbs) | 18 => ∃ A c, u = .agg #[.bool (decide (M < 0)), .slice A (digs M.natAbs).length c, .int .i64 E] ∧ Dg ww A c (digs M.natAbs) | 20 => ∃ g, u = .pointer (some ⟨g, 0, none⟩) ∧ ww.heap[g]? = some (.cells #[.bool false, .slice none 0 0, .int .i64 0] 26 (0, 0)) ∧ v1.heap.size ≤ g | _ => True)
    (by kernel_rfl) (by kernel_rfl) (by decide) (by kernel_rfl) (by kernel_rfl) (by kernel_rfl) (by decide) (by kernel_rfl) (by kernel_rfl) (by kernel_rfl) (by kernel_rfl) (by kernel_rfl) (by kernel_rfl) (by kernel_rfl) (by kernel_rfl) ?_ ?_ ?_
  · intro i u x y hi h hb
    have hi' : i = 19 ∨ i = 0 ∨ i = 1 ∨ i = 2 ∨ i = 3 ∨ i = 4 ∨ i = 5 ∨ i = 6 ∨ i = 7 ∨ i = 8 ∨ i = 9 ∨ i = 10 ∨ i = 11 ∨ i = 12 ∨ i = 13 ∨ i = 14 ∨ i = 15 ∨ i = 16 ∨ i = 17 ∨ i = 18 ∨ i = 20 := by simpa using hi
    rcases hi' with rfl | rfl | rfl | rfl | rfl | rfl | rfl | rfl | rfl | rfl | rfl | rfl | rfl | rfl | rfl | rfl | rfl | rfl | rfl | rfl | rfl
    · exact h
    · exact h
    · exact h
    · exact h
    · exact h
    · exact h
    · exact h
    · exact h
    · exact h
    · exact h
    · exact h
    · exact h
    · exact h
    · obtain ⟨A, c, e, hd⟩ := h
      exact ⟨A, c, e, hd.below hb⟩
    · exact h
    · exact h
    · exact h
    · obtain ⟨A, c, e, hd⟩ := h
      exact ⟨A, c, e, hd.below hb⟩
    · obtain ⟨A, c, e, hd⟩ := h
      exact ⟨A, c, e, hd.below hb⟩
    · obtain ⟨A, c, e, hd⟩ := h
      exact ⟨A, c, e, hd.below hb⟩
    · obtain ⟨g, e, hg, hge⟩ := h
      exact ⟨g, e, cells_of hg hb, hge⟩
  · intro i a x KK hi hF hb hw hK
    have hi' : i = 19 ∨ i = 0 ∨ i = 1 ∨ i = 2 ∨ i = 3 ∨ i = 4 ∨ i = 5 ∨ i = 6 ∨ i = 7 ∨ i = 8 ∨ i = 9 ∨ i = 10 ∨ i = 11 ∨ i = 12 ∨ i = 13 ∨ i = 14 ∨ i = 15 ∨ i = 16 ∨ i = 17 ∨ i = 18 ∨ i = 20 := by simpa using hi
    rcases hi' with rfl | rfl | rfl | rfl | rfl | rfl | rfl | rfl | rfl | rfl | rfl | rfl | rfl | rfl | rfl | rfl | rfl | rfl | rfl | rfl | rfl
    · simp only [wpOp, List.getElem?_toArray, List.getElem?_cons_succ, List.getElem?_cons_zero, Region.wanted, if_true]
      refine Or.inl ?_
      obtain ⟨A', c', e0, hd⟩ := hw 17 (by kernel_rfl)
      have e0 : a.eval (.tmp 13) = _ := e0
      clear hw hF
      simp only [Oper.wp, execOp]
      rw [e0]
      go_simp
      exact hK _ x (by first | rfl | simp) (Below.refl _ _)
    · simp only [wpOp, List.getElem?_toArray, List.getElem?_cons_zero, Region.wanted, if_true]
      refine Or.inl ?_
      have e0 : a.eval (.tmp 1) = .pointer (some ⟨w.heap.size, 0, none⟩) := hF.2.2 1 (by decide)
      clear hw hF
      simp only [Oper.wp, execOp]
      rw [e0]
      go_simp
      exact hK _ x (by first | rfl | simp) (Below.refl _ _)
    · simp only [wpOp, List.getElem?_toArray, List.getElem?_cons_succ, List.getElem?_cons_zero, Region.wanted, if_true]
      refine Or.inl ?_
      have e0 : a.eval (.tmp 14) = .pointer (some ⟨w.heap.size, 0, none⟩) := hw 0 (by kernel_rfl)
      clear hw hF
      simp only [Oper.wp, execOp]
      rw [e0]
      go_simp
      exact hK _ x (by first | rfl | simp) (Below.refl _ _)
    · simp only [wpOp, List.getElem?_toArray, List.getElem?_cons_succ, List.getElem?_cons_zero, Region.wanted, if_true]
      refine Or.inl ?_
      have e0 : a.eval (.tmp 15) = .pointer (some ⟨w.heap.size, 0, none⟩) := hw 1 (by kernel_rfl)
      have f0 := row_cell Rx_1.out hb 0
      have f1 := row_cell Rx_1.out hb 1
      have f2 := row_cell Rx_1.out hb 2
      simp only [List.getElem?_toArray, List.getElem?_cons_succ, List.getElem?_cons_zero] at f0 f1 f2
      clear hw hF
      simp only [Oper.wp, execOp]
      rw [e0]
      go_simp
      exact hK _ x (by first | rfl | simp) (Below.refl _ _)
    · simp only [wpOp, List.getElem?_toArray, List.getElem?_cons_succ, List.getElem?_cons_zero, Region.wanted, if_true]
      refine Or.inl ?_
      have e0 : a.eval (.tmp 1) = .pointer (some ⟨w.heap.size, 0, none⟩) := hF.2.2 1 (by decide)
      clear hw hF
      simp only [Oper.wp, execOp]
      rw [e0]
      go_simp
      exact hK _ x (by first | rfl | simp) (Below.refl _ _)
    · simp only [wpOp, List.getElem?_toArray, List.getElem?_cons_succ, List.getElem?_cons_zero, Region.wanted, if_true]
      refine Or.inl ?_
      have e0 : a.eval (.tmp 17) = .pointer (some ⟨w.heap.size, 0, none⟩) := hw 3 (by kernel_rfl)
      clear hw hF
      simp only [Oper.wp, execOp]
      rw [e0]
      go_simp
      exact hK _ x (by first | rfl | simp) (Below.refl _ _)
    · simp only [wpOp, List.getElem?_toArray, List.getElem?_cons_succ, List.getElem?_cons_zero, Region.wanted, if_true]
      refine Or.inl ?_
      have e0 : a.eval (.tmp 18) = .pointer (some ⟨w.heap.size, 1, none⟩) := hw 4 (by kernel_rfl)
      have f0 := row_cell Rx_1.out hb 0
      have f1 := row_cell Rx_1.out hb 1
      have f2 := row_cell Rx_1.out hb 2
      simp only [List.getElem?_toArray, List.getElem?_cons_succ, List.getElem?_cons_zero] at f0 f1 f2
      clear hw hF
      simp only [Oper.wp, execOp]
      rw [e0]
      go_simp
      exact hK _ x (by first | rfl | simp) (Below.refl _ _)
    · simp only [wpOp, List.getElem?_toArray, List.getElem?_cons_succ, List.getElem?_cons_zero, Region.wanted, if_true]
      refine Or.inl ?_
      have e0 : a.eval (.tmp 1) = .pointer (some ⟨w.heap.size, 0, none⟩) := hF.2.2 1 (by decide)
      clear hw hF
      simp only [Oper.wp, execOp]
      rw [e0]
      go_simp
      exact hK _ x (by first | rfl | simp) (Below.refl _ _)
    · simp only [wpOp, List.getElem?_toArray, List.getElem?_cons_succ, List.getElem?_cons_zero, Region.wanted, if_true]
      refine Or.inl ?_
      have e0 : a.eval (.tmp 20) = .pointer (some ⟨w.heap.size, 0, none⟩) := hw 6 (by kernel_rfl)
      clear hw hF
      simp only [Oper.wp, execOp]
      rw [e0]
      go_simp
      exact hK _ x (by first | rfl | simp) (Below.refl _ _)
    · simp only [wpOp, List.getElem?_toArray, List.getElem?_cons_succ, List.getElem?_cons_zero, Region.wanted, if_true]
      refine Or.inl ?_
      have e0 : a.eval (.tmp 21) = .pointer (some ⟨w.heap.size, 1, none⟩) := hw 7 (by kernel_rfl)
      have f0 := row_cell Rx_1.out hb 0
      have f1 := row_cell Rx_1.out hb 1
      have f2 := row_cell Rx_1.out hb 2
      simp only [List.getElem?_toArray, List.getElem?_cons_succ, List.getElem?_cons_zero] at f0 f1 f2
      clear hw hF
      simp only [Oper.wp, execOp]
      rw [e0]
      go_simp
      exact hK _ x (by first | rfl | simp) (Below.refl _ _)
    · simp only [wpOp, List.getElem?_toArray, List.getElem?_cons_succ, List.getElem?_cons_zero, Region.wanted, if_true]
      refine Or.inl ?_
      have e0 : a.tmps.getD 22 undef = .slice A xs.length c := hw 8 (by kernel_rfl)
      clear hw hF
      simp only [Oper.wp, execOp]
      go_simp
      exact hK _ x (by first | rfl | simp) (Below.refl _ _)
    · simp only [wpOp, List.getElem?_toArray, List.getElem?_cons_succ, List.getElem?_cons_zero, Region.wanted, if_true]
      refine Or.inl ?_
      have e0 : a.tmps.getD 23 undef = .int .i64 xs.length := hw 9 (by kernel_rfl)
      clear hw hF
      simp only [Oper.wp, execOp]
      go_simp
      exact hK _ x (by first | rfl | simp) (Below.refl _ _)
    · simp only [wpOp, List.getElem?_toArray, List.getElem?_cons_succ, List.getElem?_cons_zero, Region.wanted, if_true]
      refine Or.inl ?_
      have e0 : a.tmps.getD 19 undef = .slice A xs.length c := hw 5 (by kernel_rfl)
      have e1 : a.tmps.getD 24 undef = .int .i64 K := hw 10 (by kernel_rfl)
      clear hw hF
      simp only [Oper.wp, execOp]
      go_simp
      exact hK _ x (by first | rfl | simp) (Below.refl _ _)
    · simp only [wpOp, List.getElem?_toArray, List.getElem?_cons_succ, List.getElem?_cons_zero, Region.wanted, if_true]
      refine Or.inl ?_
      have e0 : a.tmps.getD 16 undef = .bool s := hw 2 (by kernel_rfl)
      have e1 : a.tmps.getD 25 undef = .slice A K.toNat c := hw 11 (by kernel_rfl)
      clear hw hF
      simp only [Oper.wp, execOp]
      go_simp
      refine (MK.out _ ((L1.out.step hb).get (A := A) (c := c) (xs := ts) (by simp))).mono ?_
      rintro e y ⟨A2, c2, rfl, hd2, hbb⟩
      exact hK _ y ⟨A2, c2, rfl, hd2⟩ hbb
    · simp only [wpOp, List.getElem?_toArray, List.getElem?_cons_succ, List.getElem?_cons_zero, Region.wanted, if_true]
      refine Or.inl ?_
      have e0 : a.eval (.tmp 3) = .int .i64 v := hF.2.2 3 (by decide)
      clear hw hF
      simp only [Oper.wp, execOp]
      rw [e0]
      go_simp
      exact hK _ x (by first | rfl | simp) (Below.refl _ _)
    · simp only [wpOp, List.getElem?_toArray, List.getElem?_cons_succ, List.getElem?_cons_zero, Region.wanted, if_true]
      refine Or.inl ?_
      have e0 : a.eval (.tmp 27) = .int .i64 v := hw 13 (by kernel_rfl)
      clear hw hF
      simp only [Oper.wp, execOp]
      rw [e0]
      go_simp
      exact hK _ x (by first | rfl | simp) (Below.refl _ _)
    · simp only [wpOp, List.getElem?_toArray, List.getElem?_cons_succ, List.getElem?_cons_zero, Region.wanted, if_true]
      refine Or.inl ?_
      have e0 : a.eval (.tmp 28) = .int .i64 (v % 181) := hw 14 (by kernel_rfl)
      clear hw hF
      simp only [Oper.wp, execOp]
      rw [e0]
      go_simp
      exact hK _ x (by first | rfl | simp) (Below.refl _ _)
    · simp only [wpOp, List.getElem?_toArray, List.getElem?_cons_succ, List.getElem?_cons_zero, Region.wanted, if_true]
      refine Or.inl ?_
      obtain ⟨A', c', e0, hd⟩ := hw 12 (by kernel_rfl)
      have e0 : a.tmps.getD 26 undef = _ := e0
      have e1 : a.tmps.getD 29 undef = .int .i64 e := hw 15 (by kernel_rfl)
      clear hw hF
      simp only [Oper.wp, execOp]
      go_simp
      refine (DM.out _ A' c' hd (t32_live HT.out (L1.out.step hb))).mono ?_
      rintro e y ⟨A2, c2, rfl, hd2, hbb⟩
      exact hK _ y ⟨A2, c2, rfl, hd2⟩ hbb
    · simp only [wpOp, List.getElem?_toArray, List.getElem?_cons_succ, List.getElem?_cons_zero, Region.wanted, if_true]
      refine Or.inl ?_
      obtain ⟨A', c', e0, hd⟩ := hw 16 (by kernel_rfl)
      have e0 : a.eval (.tmp 30) = _ := e0
      clear hw hF
      simp only [Oper.wp, execOp]
      rw [e0]
      go_simp
      exact hK _ x ⟨A', c', rfl, hd⟩ (Below.refl _ _)
    · simp only [wpOp, List.getElem?_toArray, List.getElem?_cons_succ, List.getElem?_cons_zero, Region.wanted, if_true]
      refine Or.inl ?_
      obtain ⟨A', c', e0, hd⟩ := hw 17 (by kernel_rfl)
      have e0 : a.eval (.tmp 13) = _ := e0
      clear hw hF
      simp only [Oper.wp, execOp]
      rw [e0]
      go_simp
      exact hK _ x ⟨A', c', rfl, hd⟩ (Below.refl _ _)
    · simp only [wpOp, List.getElem?_toArray, List.getElem?_cons_succ, List.getElem?_cons_zero, Region.wanted, if_true]
      refine Or.inl ?_
      clear hw hF
      simp only [Oper.wp, execOp]
      go_simp
      exact hK _ _ ⟨_, rfl, heap_alloc_new _ _, hb.size⟩ (below1 _ _)
  · intro a x hF0 hb hR
    have hF : Fr6 [32, 14, 15, 16, 17, 18, 19, 20, 21, 22, 23, 24, 25, 26, 27, 28, 29, 30, 13, 31, 4] _ a := hF0
    have e0 : a.tmps.getD 14 undef = .pointer (some ⟨w.heap.size, 0, none⟩) := hR 0 (by decide)
    have e1 : a.tmps.getD 15 undef = .pointer (some ⟨w.heap.size, 0, none⟩) := hR 1 (by decide)
    have e2 : a.tmps.getD 16 undef = .bool s := hR 2 (by decide)
    have e3 : a.tmps.getD 17 undef = .pointer (some ⟨w.heap.size, 0, none⟩) := hR 3 (by decide)
    have e4 : a.tmps.getD 18 undef = .pointer (some ⟨w.heap.size, 1, none⟩) := hR 4 (by decide)
    have e5 : a.tmps.getD 19 undef = .slice A xs.length c := hR 5 (by decide)
    have e6 : a.tmps.getD 20 undef = .pointer (some ⟨w.heap.size, 0, none⟩) := hR 6 (by decide)
    have e7 : a.tmps.getD 21 undef = .pointer (some ⟨w.heap.size, 1, none⟩) := hR 7 (by decide)
    have e8 : a.tmps.getD 22 undef = .slice A xs.length c := hR 8 (by decide)
    have e9 : a.tmps.getD 23 undef = .int .i64 xs.length := hR 9 (by decide)
    have e10 : a.tmps.getD 24 undef = .int .i64 K := hR 10 (by decide)
    have e11 : a.tmps.getD 25 undef = .slice A K.toNat c := hR 11 (by decide)
    obtain ⟨B12, d12, h12, hd12⟩ := hR 12 (by decide)
    have e12 : a.tmps.getD 26 undef = _ := h12
    have e13 : a.tmps.getD 27 undef = .int .i64 v := hR 13 (by decide)
    have e14 : a.tmps.getD 28 undef = .int .i64 (v % 181) := hR 14 (by decide)
    have e15 : a.tmps.getD 29 undef = .int .i64 e := hR 15 (by decide)
    obtain ⟨B16, d16, h16, hd16⟩ := hR 16 (by decide)
    have e16 : a.tmps.getD 30 undef = _ := h16
    obtain ⟨B17, d17, h17, hd17⟩ := hR 17 (by decide)
    have e17 : a.tmps.getD 13 undef = _ := h17
    obtain ⟨B18, d18, h18, hd18⟩ := hR 18 (by decide)
    have e18 : a.tmps.getD 31 undef = _ := h18
    obtain ⟨g20, h20, hg20, hge20⟩ := hR 20 (by decide)
    have e20 : a.tmps.getD 4 undef = _ := h20
    refine ⟨⟨?_, ?_⟩, fun hx => ?_⟩
    · rw [hF.fold (by kernel_rfl)]
      simp only [List.foldl_cons, List.foldl_nil, e0, e1, e2, e3, e4, e5, e6, e7, e8, e9, e10, e11, e12, e13, e14, e15, e16, e17, e18, e20]
      generalize a.tmps.getD 32 undef = vx at *
      simp only [Act.put, List.setIfInBounds_toArray, List.set_cons_zero, List.set_cons_succ]
      clear e0 e1 e2 e3 e4 e5 e6 e7 e8 e9 e10 e11 e12 e13 e14 e15 e16 e17 e18 e20 hR hF hF0 h12 h16 h17 h18 h20
      obtain ⟨w2, hW⟩ : ∃ W : World, W = x := ⟨_, rfl⟩
      rw [← hW]
      rw [← hW] at hb hd12 hd16 hd17 hd18 hg20
      have L2 := Lib.hid (((((L1.out.step hb).add hd12).add hd16).add hd17).add hd18)
      have Rx_2 := co Rx_1 hb
      have Rr_2 := co Rr_1 hb
      have Rq20_2 := Lib.hid hg20
      have Gq20 : w.heap.size ≤ g20 := Nat.le_trans L1.out.1.size hge20
      have Nxq20 : w.heap.size < g20 := by have := heap_lt Rx_1.out; omega
      have Nrq20 : w.heap.size + 1 < g20 := by have := heap_lt Rr_1.out; omega
      clear hW hb hd12 hd16 hd17 hd18 hg20 hge20
      obtain ⟨fq200, zq200, fq201, zq201, fq202, zq202, xq20⟩ := ly3 Rq20_2.out
      simp only [wpOps_cons]
      simp only [wpOp, List.getElem?_toArray, List.getElem?_cons_succ, List.getElem?_cons_zero, Region.wanted, if_true]
      refine Or.inl ?_
      simp only [Oper.wp, execOp]
      go_simp
      simp only [wpOps_cons]
      simp only [wpOp, List.getElem?_toArray, List.getElem?_cons_succ, List.getElem?_cons_zero, Region.wanted, if_true]
      refine Or.inl ?_
      simp only [Oper.wp, execOp]
      go_simp
      simp only [wpOps_cons]
      simp only [wpOp, List.getElem?_toArray, List.getElem?_cons_succ, List.getElem?_cons_zero, Region.wanted, if_true]
      refine Or.inl ?_
      simp only [Oper.wp, execOp]
      go_simp
      try simp only [wpOps]
      clear fq200 zq200 fq201 zq201 fq202 zq202 xq20
      obtain ⟨w3, hW⟩ : ∃ W : World, W = (((w2.setCell ⟨g20, 0, none⟩ (.bool (decide (M < 0)))).setCell ⟨g20, 1, none⟩ (.slice B18 (digs M.natAbs).length d18)).setCell ⟨g20, 2, none⟩ (.int .i64 E)) := ⟨_, rfl⟩
      rw [← hW]
      have hO : Only (g20) w2 w3 := by rw [hW]; exact ((((Only.refl (g20) w2).setCell 0 _).setCell 1 _).setCell 2 _)
      have L3 := Lib.hid (live_only L2.out hO Rq20_2.out noint_dy Gq20)
      have Rx_3 := Lib.hid ((hO.block _ (by omega)).trans Rx_2.out)
      have Rr_3 := Lib.hid ((hO.block _ (by omega)).trans Rr_2.out)
      have Rq20_3 := Lib.hid (show w3.heap[g20]? = some (.cells #[.bool (decide (M < 0)), .slice B18 (digs M.natAbs).length d18, .int .i64 E] 26 (0, 0)) by rw [hW]; exact (heap_setCell_same _ _ 2 _ _ _ (heap_setCell_same _ _ 1 _ _ _ (heap_setCell_same _ _ 0 _ _ _ Rq20_2.out))))
      clear hW hO
      obtain ⟨fr0, zr0, fr1, zr1, fr2, zr2, xr⟩ := ly3 Rr_3.out
      obtain ⟨fq200, zq200, fq201, zq201, fq202, zq202, xq20⟩ := ly3 Rq20_3.out
      go_wp2
      refine bodyPost_ret (v := .agg #[.bool (decide (M < 0)), .slice B18 (digs M.natAbs).length d18, .int .i64 E]) (by simp [results, Tryz.results37, go_sem, fr0, fr1, fr2, fq200, fq201, fq202]) rfl ?_
      
      refine ⟨B18, d18, rfl, ?_, ?_⟩
      · exact (fin3 L3.out Rr_3.out noint3 Gr).get (A := B18) (c := d18) (xs := digs M.natAbs) (by simp)
      · exact (fin3 L3.out Rr_3.out noint3 Gr).1
    · rw [hF.fold (by kernel_rfl)]
      simp only [List.foldl_cons, List.foldl_nil, e0, e1, e2, e3, e4, e5, e6, e7, e8, e9, e10, e11, e12, e13, e14, e15, e16, e17, e18, e20]
      generalize a.tmps.getD 32 undef = vx at *
      simp only [Act.put, List.setIfInBounds_toArray, List.set_cons_zero, List.set_cons_succ]
      clear e0 e1 e2 e3 e4 e5 e6 e7 e8 e9 e10 e11 e12 e13 e14 e15 e16 e17 e18 e20 hR hF hF0 h12 h16 h17 h18 h20
      obtain ⟨w2, hW⟩ : ∃ W : World, W = x := ⟨_, rfl⟩
      rw [← hW]
      rw [← hW] at hb hd12 hd16 hd17 hd18 hg20
      have L2 := Lib.hid (((((L1.out.step hb).add hd12).add hd16).add hd17).add hd18)
      have Rx_2 := co Rx_1 hb
      have Rr_2 := co Rr_1 hb
      have Rq20_2 := Lib.hid hg20
      have Gq20 : w.heap.size ≤ g20 := Nat.le_trans L1.out.1.size hge20
      have Nxq20 : w.heap.size < g20 := by have := heap_lt Rx_1.out; omega
      have Nrq20 : w.heap.size + 1 < g20 := by have := heap_lt Rr_1.out; omega
      clear hW hb hd12 hd16 hd17 hd18 hg20 hge20
      obtain ⟨fq200, zq200, fq201, zq201, fq202, zq202, xq20⟩ := ly3 Rq20_2.out
      simp only [wpOps_cons]
      simp only [wpOp, List.getElem?_toArray, List.getElem?_cons_succ, List.getElem?_cons_zero, Region.wanted, if_true]
      refine Or.inl ?_
      simp only [Oper.wp, execOp]
      go_simp
      simp only [wpOps_cons]
      simp only [wpOp, List.getElem?_toArray, List.getElem?_cons_succ, List.getElem?_cons_zero, Region.wanted, if_true]
      refine Or.inl ?_
      simp only [Oper.wp, execOp]
      go_simp
      simp only [wpOps_cons]
      simp only [wpOp, List.getElem?_toArray, List.getElem?_cons_succ, List.getElem?_cons_zero, Region.wanted, if_true]
      refine Or.inl ?_
      simp only [Oper.wp, execOp]
      go_simp
      try simp only [wpOps]
      clear fq200 zq200 fq201 zq201 fq202 zq202 xq20
      obtain ⟨w3, hW⟩ : ∃ W : World, W = (((w2.setCell ⟨g20, 0, none⟩ (.bool (decide (M < 0)))).setCell ⟨g20, 1, none⟩ (.slice B18 (digs M.natAbs).length d18)).setCell ⟨g20, 2, none⟩ (.int .i64 E)) := ⟨_, rfl⟩
      rw [← hW]
      have hO : Only (g20) w2 w3 := by rw [hW]; exact ((((Only.refl (g20) w2).setCell 0 _).setCell 1 _).setCell 2 _)
      have L3 := Lib.hid (live_only L2.out hO Rq20_2.out noint_dy Gq20)
      have Rx_3 := Lib.hid ((hO.block _ (by omega)).trans Rx_2.out)
      have Rr_3 := Lib.hid ((hO.block _ (by omega)).trans Rr_2.out)
      have Rq20_3 := Lib.hid (show w3.heap[g20]? = some (.cells #[.bool (decide (M < 0)), .slice B18 (digs M.natAbs).length d18, .int .i64 E] 26 (0, 0)) by rw [hW]; exact (heap_setCell_same _ _ 2 _ _ _ (heap_setCell_same _ _ 1 _ _ _ (heap_setCell_same _ _ 0 _ _ _ Rq20_2.out))))
      clear hW hO
      obtain ⟨fr0, zr0, fr1, zr1, fr2, zr2, xr⟩ := ly3 Rr_3.out
      obtain ⟨fq200, zq200, fq201, zq201, fq202, zq202, xq20⟩ := ly3 Rq20_3.out
      go_wp2
      refine bodyPost_ret (v := .agg #[.bool (decide (M < 0)), .slice B18 (digs M.natAbs).length d18, .int .i64 E]) (by simp [results, Tryz.results37, go_sem, fr0, fr1, fr2, fq200, fq201, fq202]) rfl ?_
      
      refine ⟨B18, d18, rfl, ?_, ?_⟩
      · exact (fin3 L3.out Rr_3.out noint3 Gr).get (A := B18) (c := d18) (xs := digs M.natAbs) (by simp)
      · exact (fin3 L3.out Rr_3.out noint3 Gr).1
    · have e19 : a.tmps.getD 32 undef = .bool true := hx
      rw [hF.fold (by kernel_rfl)]
      simp only [List.foldl_cons, List.foldl_nil, e0, e1, e2, e3, e4, e5, e6, e7, e8, e9, e10, e11, e12, e13, e14, e15, e16, e17, e18, e20, e19]
      simp only [Act.put, List.setIfInBounds_toArray, List.set_cons_zero, List.set_cons_succ]
      clear e0 e1 e2 e3 e4 e5 e6 e7 e8 e9 e10 e11 e12 e13 e14 e15 e16 e17 e18 e20 e19 hR hF hF0 h12 h16 h17 h18 h20 hx
      obtain ⟨w2, hW⟩ : ∃ W : World, W = x := ⟨_, rfl⟩
      rw [← hW]
      rw [← hW] at hb hd12 hd16 hd17 hd18 hg20
      have L2 := Lib.hid (((((L1.out.step hb).add hd12).add hd16).add hd17).add hd18)
      have Rx_2 := co Rx_1 hb
      have Rr_2 := co Rr_1 hb
      have Rq20_2 := Lib.hid hg20
      have Gq20 : w.heap.size ≤ g20 := Nat.le_trans L1.out.1.size hge20
      have Nxq20 : w.heap.size < g20 := by have := heap_lt Rx_1.out; omega
      have Nrq20 : w.heap.size + 1 < g20 := by have := heap_lt Rr_1.out; omega
      clear hW hb hd12 hd16 hd17 hd18 hg20 hge20
      obtain ⟨fq200, zq200, fq201, zq201, fq202, zq202, xq20⟩ := ly3 Rq20_2.out
      simp only [wpOps_cons]
      simp only [wpOp, List.getElem?_toArray, List.getElem?_cons_succ, List.getElem?_cons_zero, Region.wanted, if_true]
      refine Or.inl ?_
      simp only [Oper.wp, execOp]
      go_simp
      simp only [wpOps_cons]
      simp only [wpOp, List.getElem?_toArray, List.getElem?_cons_succ, List.getElem?_cons_zero, Region.wanted, if_true]
      refine Or.inl ?_
      simp only [Oper.wp, execOp]
      go_simp
      try simp only [wpOps]
      clear fq200 zq200 fq201 zq201 fq202 zq202 xq20
      obtain ⟨w3, hW⟩ : ∃ W : World, W = (((w2.setCell ⟨g20, 0, none⟩ (.bool (decide (M < 0)))).setCell ⟨g20, 1, none⟩ (.slice B18 (digs M.natAbs).length d18)).setCell ⟨g20, 2, none⟩ (.int .i64 E)) := ⟨_, rfl⟩
      rw [← hW]
      have hO : Only (g20) w2 w3 := by rw [hW]; exact ((((Only.refl (g20) w2).setCell 0 _).setCell 1 _).setCell 2 _)
      have L3 := Lib.hid (live_only L2.out hO Rq20_2.out noint_dy Gq20)
      have Rx_3 := Lib.hid ((hO.block _ (by omega)).trans Rx_2.out)
      have Rr_3 := Lib.hid ((hO.block _ (by omega)).trans Rr_2.out)
      have Rq20_3 := Lib.hid (show w3.heap[g20]? = some (.cells #[.bool (decide (M < 0)), .slice B18 (digs M.natAbs).length d18, .int .i64 E] 26 (0, 0)) by rw [hW]; exact (heap_setCell_same _ _ 2 _ _ _ (heap_setCell_same _ _ 1 _ _ _ (heap_setCell_same _ _ 0 _ _ _ Rq20_2.out))))
      clear hW hO
      obtain ⟨fr0, zr0, fr1, zr1, fr2, zr2, xr⟩ := ly3 Rr_3.out
      obtain ⟨fq200, zq200, fq201, zq201, fq202, zq202, xq20⟩ := ly3 Rq20_3.out
      go_wp2
      refine bodyPost_ret (v := .agg #[.bool (decide (M < 0)), .slice B18 (digs M.natAbs).length d18, .int .i64 E]) (by simp [results, Tryz.results37, go_sem, fr0, fr1, fr2, fq200, fq201, fq202]) rfl ?_
      
      refine ⟨B18, d18, rfl, ?_, ?_⟩
      · exact (fin3 L3.out Rr_3.out noint3 Gr).get (A := B18) (c := d18) (xs := digs M.natAbs) (by simp)
      · exact (fin3 L3.out Rr_3.out noint3 Gr).1

/-- A tame number. -/
def tq (s : Bool) (xs : List Nat) (e : Int) : Qn := (nm (sg s (val (xs.take 4))), nx (sg s (val (xs.take 4))) (tameI e))
theorem tq_bd {s : Bool} {xs : List Nat} {e : Int} (h : ok32 xs) : Qb (-90) 218 (tq s xs e) := tmI_of (takeI h s) (tameI_bd e).1 (tameI_bd e).2
theorem itame_any {A : Option Addr} {c : Nat} {s : Bool} {xs : List Nat} {y : Int} {a : Qn} {w : World} (h : Dg w A c xs) (hT : T32 w) (hlx : xs.length ≤ 9223372036854775807) (y0 : -9223372036854775808 ≤ y) (y1 : y ≤ 9223372036854775807) (ha : tq s xs y = a) :
    Calls Tryz.prog 37 #[.agg #[.bool s, .slice A xs.length c, .int .i64 y]] w fun e w' => Yr a.1 a.2 w e w' := by
  subst ha
  by_cases hy : y < 0
  · exact itame_n A c s xs y _ _ w h hT hlx y0 y1 rfl rfl hy
  · exact itame_p A c s xs y _ _ w h hT hlx y0 y1 rfl rfl (by omega)
/-- The stretch of two numbers. -/
def spanS (a b : Qn) : St := if qr b < qr a then ⟨b, a⟩ else ⟨a, b⟩
theorem spanS_sb {L H : Int} {a b : Qn} (h : Qb L H a) (h' : Qb L H b) : Sb L H (spanS a b) := by
  unfold spanS
  split
  · rename_i hc; exact ⟨h', h, by show qr b ≤ qr a; grind⟩
  · rename_i hc; exact ⟨h, h', by show qr a ≤ qr b; grind⟩
theorem r5cmp_q {A B : Option Addr} {c d : Nat} {a b : Qn} {q : Int} {w : World} (h : Dg w A c (digs a.1.natAbs)) (h' : Dg w B d (digs b.1.natAbs)) (oa : Qo a) (ob : Qo b) (hq : cmpd (qr a) (qr b) = q) :
    Calls Tryz.prog 38 #[.agg #[.bool (decide (a.1 < 0)), .slice A (digs a.1.natAbs).length c, .int .i64 a.2], .agg #[.bool (decide (b.1 < 0)), .slice B (digs b.1.natAbs).length d, .int .i64 b.2]] w fun e w' => e = .returned (.int .i64 q) ∧ Below w.heap.size w w' :=
  r5cmp_any h h' oa.len ob.len oa.rt ob.rt hq
end Go.Proofs.YtijodbjdajddoaaGreatDoor
end

section
/-
  iv: the law's span.
-/
namespace Go.Proofs.YtijodbjdajddoaaGreatDoor
open Go.RowKit
set_option linter.unusedSimpArgs false
set_option linter.unusedVariables false
set_option maxHeartbeats 4000000 in
set_option maxRecDepth 100000 in
theorem span_no (Ax : Option Addr) (cx : Nat) (sx : Bool) (xsx : List Nat) (ex : Int) (Ay : Option Addr) (cy : Nat) (sy : Bool) (xsy : List Nat) (ey : Int) (a b : Qn) (w : World) (hx : Dg w Ax cx xsx) (lx : xsx.length ≤ 9223372036854775807) (ex0 : -9223372036854775808 ≤ ex) (ex1 : ex ≤ 9223372036854775807) (hy : Dg w Ay cy xsy) (ly : xsy.length ≤ 9223372036854775807) (ey0 : -9223372036854775808 ≤ ey) (ey1 : ey ≤ 9223372036854775807) (hT : T32 w) (ha : tq sx xsx ex = a) (hb : tq sy xsy ey = b) (hc : ¬ qr b < qr a):
    Calls Tryz.prog 12 #[.agg #[.bool sx, .slice Ax xsx.length cx, .int .i64 ex], .agg #[.bool sy, .slice Ay xsy.length cy, .int .i64 ey]] w fun e w' => Ys ⟨a, b⟩ w e w' := by
  have HA := Lib.hid ha
  have HB := Lib.hid hb
  have OA := Lib.hid (ha ▸ (tq_bd hx.2.1).ok (by omega) (by omega))
  have OB := Lib.hid (hb ▸ (tq_bd hy.2.1).ok (by omega) (by omega))
  have LX := Lib.hid lx
  have LY := Lib.hid ly
  have EX := Lib.hid (And.intro ex0 ex1)
  have EY := Lib.hid (And.intro ey0 ey1)
  obtain ⟨q, hq⟩ : ∃ q, cmpd (qr a) (qr b) = q := ⟨_, rfl⟩
  have d1 : decide (0 < q) = false := by rw [← hq]; exact decide_eq_false (fun h => hc (cmpd_gtd.1 h))
  have HQ := Lib.hid hq
  have HT := Lib.hid hT
  clear hT
  have L0 := Lib.hid (((live_start w).add hx).add hy)
  clear hx hy lx ly ex0 ex1 ey0 ey1 ha hb hc hq
  go_enter Tryz.func12, Tryz.ntmps12
  go_wp2_with fail
  obtain ⟨v1, hW, hb, Rx_1, Ry_1, Rr_1⟩ := new3 w (.cells #[.bool sx, .slice Ax xsx.length cx, .int .i64 ex] 26) (.cells #[.bool sy, .slice Ay xsy.length cy, .int .i64 ey] 26) (.cells #[.bool false, .slice none 0 0, .int .i64 0, .bool false, .slice none 0 0, .int .i64 0] 34)
  rw [← hW]
  have L1 := ls L0 hb
  have Gx := gl0 L0.out
  have Gy := gl1 L0.out
  have Nxy : w.heap.size < w.heap.size + 1 := by omega
  have Gr := gl2 L0.out
  have Nxr : w.heap.size < w.heap.size + 1 + 1 := by omega
  have Nyr : w.heap.size + 1 < w.heap.size + 1 + 1 := by omega
  clear hW hb
  refine (itame_any (L1.out.get (A := Ax) (c := cx) (xs := xsx) (by simp)) (t32_live HT.out L1.out) LX.out EX.out.1 EX.out.2 HA.out).mono ?_
  rintro e w2 ⟨A2, c2, rfl, hd, hb⟩
  have L2 := la L1 hb hd
  have Rx_2 := co Rx_1 hb
  have Ry_2 := co Ry_1 hb
  have Rr_2 := co Rr_1 hb
  clear hb hd
  obtain ⟨fy0, zy0, fy1, zy1, fy2, zy2, xy⟩ := ly3 Ry_2.out
  go_wp2_with fail
  obtain ⟨w3, hW, hb, Ra_3⟩ := new1 w2 (.cells #[.bool (decide (a.1 < 0)), .slice A2 (digs a.1.natAbs).length c2, .int .i64 a.2] 26)
  rw [← hW]
  have L3 := ls L2 hb
  have Rx_3 := co Rx_2 hb
  have Ry_3 := co Ry_2 hb
  have Rr_3 := co Rr_2 hb
  have Ga := gl0 L2.out
  have Nxa := nl0 Rx_2.out
  have Nya := nl0 Ry_2.out
  have Nra := nl0 Rr_2.out
  clear hW hb
  clear fy0 zy0 fy1 zy1 fy2 zy2 xy
  refine (itame_any (L3.out.get (A := Ay) (c := cy) (xs := xsy) (by simp)) (t32_live HT.out L3.out) LY.out EY.out.1 EY.out.2 HB.out).mono ?_
  rintro e w4 ⟨A4, c4, rfl, hd, hb⟩
  have L4 := la L3 hb hd
  have Rx_4 := co Rx_3 hb
  have Ry_4 := co Ry_3 hb
  have Rr_4 := co Rr_3 hb
  have Ra_4 := co Ra_3 hb
  clear hb hd
  obtain ⟨fa0, za0, fa1, za1, fa2, za2, xa⟩ := ly3 Ra_4.out
  go_wp2_with fail
  obtain ⟨w5, hW, hb, Rb_5⟩ := new1 w4 (.cells #[.bool (decide (b.1 < 0)), .slice A4 (digs b.1.natAbs).length c4, .int .i64 b.2] 26)
  rw [← hW]
  have L5 := ls L4 hb
  have Rx_5 := co Rx_4 hb
  have Ry_5 := co Ry_4 hb
  have Rr_5 := co Rr_4 hb
  have Ra_5 := co Ra_4 hb
  have Gb := gl0 L4.out
  have Nxb := nl0 Rx_4.out
  have Nyb := nl0 Ry_4.out
  have Nrb := nl0 Rr_4.out
  have Nab := nl0 Ra_4.out
  clear hW hb
  clear fa0 za0 fa1 za1 fa2 za2 xa
  refine (r5cmp_q (L5.out.get (A := A2) (c := c2) (xs := digs a.1.natAbs) (by simp)) (L5.out.get (A := A4) (c := c4) (xs := digs b.1.natAbs) (by simp)) OA.out OB.out HQ.out).mono ?_
  rintro e w6 ⟨rfl, hb⟩
  have L6 := ls L5 hb
  have Rx_6 := co Rx_5 hb
  have Ry_6 := co Ry_5 hb
  have Rr_6 := co Rr_5 hb
  have Ra_6 := co Ra_5 hb
  have Rb_6 := co Rb_5 hb
  clear hb 
  obtain ⟨fa0, za0, fa1, za1, fa2, za2, xa⟩ := ly3 Ra_6.out
  obtain ⟨fb0, zb0, fb1, zb1, fb2, zb2, xb⟩ := ly3 Rb_6.out
  obtain ⟨fr0, zr0, fr1, zr1, fr2, zr2, fr3, zr3, fr4, zr4, fr5, zr5, xr⟩ := ly6 Rr_6.out
  go_wp2
  clear fa0 za0 fa1 za1 fa2 za2 xa fb0 zb0 fb1 zb1 fb2 zb2 xb fr0 zr0 fr1 zr1 fr2 zr2 fr3 zr3 fr4 zr4 fr5 zr5 xr
  obtain ⟨fr0, zr0, fr1, zr1, fr2, zr2, fr3, zr3, fr4, zr4, fr5, zr5, xr⟩ := ly6 Rr_6.out
  refine bodyPost_ret (v := .agg #[.bool (decide (a.1 < 0)), .slice A2 (digs a.1.natAbs).length c2, .int .i64 a.2, .bool (decide (b.1 < 0)), .slice A4 (digs b.1.natAbs).length c4, .int .i64 b.2]) (by simp [results, Tryz.results12, go_sem, fr0, fr1, fr2, fr3, fr4, fr5]) rfl ?_
  refine ⟨A2, c2, A4, c4, rfl, ?_, ?_, ?_⟩
  · exact (fin6 L6.out Rr_6.out noint_iv Gr).get (A := A2) (c := c2) (xs := digs a.1.natAbs) (by simp)
  · exact (fin6 L6.out Rr_6.out noint_iv Gr).get (A := A4) (c := c4) (xs := digs b.1.natAbs) (by simp)
  · exact (fin6 L6.out Rr_6.out noint_iv Gr).1

set_option maxHeartbeats 4000000 in
set_option maxRecDepth 100000 in
theorem span_sw (Ax : Option Addr) (cx : Nat) (sx : Bool) (xsx : List Nat) (ex : Int) (Ay : Option Addr) (cy : Nat) (sy : Bool) (xsy : List Nat) (ey : Int) (a b : Qn) (w : World) (hx : Dg w Ax cx xsx) (lx : xsx.length ≤ 9223372036854775807) (ex0 : -9223372036854775808 ≤ ex) (ex1 : ex ≤ 9223372036854775807) (hy : Dg w Ay cy xsy) (ly : xsy.length ≤ 9223372036854775807) (ey0 : -9223372036854775808 ≤ ey) (ey1 : ey ≤ 9223372036854775807) (hT : T32 w) (ha : tq sx xsx ex = a) (hb : tq sy xsy ey = b) (hc : qr b < qr a):
    Calls Tryz.prog 12 #[.agg #[.bool sx, .slice Ax xsx.length cx, .int .i64 ex], .agg #[.bool sy, .slice Ay xsy.length cy, .int .i64 ey]] w fun e w' => Ys ⟨b, a⟩ w e w' := by
  have HA := Lib.hid ha
  have HB := Lib.hid hb
  have OA := Lib.hid (ha ▸ (tq_bd hx.2.1).ok (by omega) (by omega))
  have OB := Lib.hid (hb ▸ (tq_bd hy.2.1).ok (by omega) (by omega))
  have LX := Lib.hid lx
  have LY := Lib.hid ly
  have EX := Lib.hid (And.intro ex0 ex1)
  have EY := Lib.hid (And.intro ey0 ey1)
  obtain ⟨q, hq⟩ : ∃ q, cmpd (qr a) (qr b) = q := ⟨_, rfl⟩
  have d1 : decide (0 < q) = true := by rw [← hq]; rw [cmpd_gt hc]; rfl
  have HQ := Lib.hid hq
  have HT := Lib.hid hT
  clear hT
  have L0 := Lib.hid (((live_start w).add hx).add hy)
  clear hx hy lx ly ex0 ex1 ey0 ey1 ha hb hc hq
  go_enter Tryz.func12, Tryz.ntmps12
  go_wp2_with fail
  obtain ⟨v1, hW, hb, Rx_1, Ry_1, Rr_1⟩ := new3 w (.cells #[.bool sx, .slice Ax xsx.length cx, .int .i64 ex] 26) (.cells #[.bool sy, .slice Ay xsy.length cy, .int .i64 ey] 26) (.cells #[.bool false, .slice none 0 0, .int .i64 0, .bool false, .slice none 0 0, .int .i64 0] 34)
  rw [← hW]
  have L1 := ls L0 hb
  have Gx := gl0 L0.out
  have Gy := gl1 L0.out
  have Nxy : w.heap.size < w.heap.size + 1 := by omega
  have Gr := gl2 L0.out
  have Nxr : w.heap.size < w.heap.size + 1 + 1 := by omega
  have Nyr : w.heap.size + 1 < w.heap.size + 1 + 1 := by omega
  clear hW hb
  refine (itame_any (L1.out.get (A := Ax) (c := cx) (xs := xsx) (by simp)) (t32_live HT.out L1.out) LX.out EX.out.1 EX.out.2 HA.out).mono ?_
  rintro e w2 ⟨A2, c2, rfl, hd, hb⟩
  have L2 := la L1 hb hd
  have Rx_2 := co Rx_1 hb
  have Ry_2 := co Ry_1 hb
  have Rr_2 := co Rr_1 hb
  clear hb hd
  obtain ⟨fy0, zy0, fy1, zy1, fy2, zy2, xy⟩ := ly3 Ry_2.out
  go_wp2_with fail
  obtain ⟨w3, hW, hb, Ra_3⟩ := new1 w2 (.cells #[.bool (decide (a.1 < 0)), .slice A2 (digs a.1.natAbs).length c2, .int .i64 a.2] 26)
  rw [← hW]
  have L3 := ls L2 hb
  have Rx_3 := co Rx_2 hb
  have Ry_3 := co Ry_2 hb
  have Rr_3 := co Rr_2 hb
  have Ga := gl0 L2.out
  have Nxa := nl0 Rx_2.out
  have Nya := nl0 Ry_2.out
  have Nra := nl0 Rr_2.out
  clear hW hb
  clear fy0 zy0 fy1 zy1 fy2 zy2 xy
  refine (itame_any (L3.out.get (A := Ay) (c := cy) (xs := xsy) (by simp)) (t32_live HT.out L3.out) LY.out EY.out.1 EY.out.2 HB.out).mono ?_
  rintro e w4 ⟨A4, c4, rfl, hd, hb⟩
  have L4 := la L3 hb hd
  have Rx_4 := co Rx_3 hb
  have Ry_4 := co Ry_3 hb
  have Rr_4 := co Rr_3 hb
  have Ra_4 := co Ra_3 hb
  clear hb hd
  obtain ⟨fa0, za0, fa1, za1, fa2, za2, xa⟩ := ly3 Ra_4.out
  go_wp2_with fail
  obtain ⟨w5, hW, hb, Rb_5⟩ := new1 w4 (.cells #[.bool (decide (b.1 < 0)), .slice A4 (digs b.1.natAbs).length c4, .int .i64 b.2] 26)
  rw [← hW]
  have L5 := ls L4 hb
  have Rx_5 := co Rx_4 hb
  have Ry_5 := co Ry_4 hb
  have Rr_5 := co Rr_4 hb
  have Ra_5 := co Ra_4 hb
  have Gb := gl0 L4.out
  have Nxb := nl0 Rx_4.out
  have Nyb := nl0 Ry_4.out
  have Nrb := nl0 Rr_4.out
  have Nab := nl0 Ra_4.out
  clear hW hb
  clear fa0 za0 fa1 za1 fa2 za2 xa
  refine (r5cmp_q (L5.out.get (A := A2) (c := c2) (xs := digs a.1.natAbs) (by simp)) (L5.out.get (A := A4) (c := c4) (xs := digs b.1.natAbs) (by simp)) OA.out OB.out HQ.out).mono ?_
  rintro e w6 ⟨rfl, hb⟩
  have L6 := ls L5 hb
  have Rx_6 := co Rx_5 hb
  have Ry_6 := co Ry_5 hb
  have Rr_6 := co Rr_5 hb
  have Ra_6 := co Ra_5 hb
  have Rb_6 := co Rb_5 hb
  clear hb 
  obtain ⟨fa0, za0, fa1, za1, fa2, za2, xa⟩ := ly3 Ra_6.out
  obtain ⟨fb0, zb0, fb1, zb1, fb2, zb2, xb⟩ := ly3 Rb_6.out
  obtain ⟨fr0, zr0, fr1, zr1, fr2, zr2, fr3, zr3, fr4, zr4, fr5, zr5, xr⟩ := ly6 Rr_6.out
  go_wp2
  all_goals
    obtain ⟨w7, hW⟩ : ∃ W : World, W = (((w6.setCell ⟨w2.heap.size, 0, none⟩ (.bool (decide (b.1 < 0)))).setCell ⟨w2.heap.size, 1, none⟩ (.slice A4 (digs b.1.natAbs).length c4)).setCell ⟨w2.heap.size, 2, none⟩ (.int .i64 b.2)) := ⟨_, rfl⟩
    rw [← hW]
    have hO : Only (w2.heap.size) w6 w7 := by rw [hW]; exact ((((Only.refl (w2.heap.size) w6).setCell 0 _).setCell 1 _).setCell 2 _)
    have L7 := Lib.hid (live_only L6.out hO Ra_6.out noint_dy Ga)
    have Rx_7 := Lib.hid ((hO.block _ (by omega)).trans Rx_6.out)
    have Ry_7 := Lib.hid ((hO.block _ (by omega)).trans Ry_6.out)
    have Rr_7 := Lib.hid ((hO.block _ (by omega)).trans Rr_6.out)
    have Rb_7 := Lib.hid ((hO.block _ (by omega)).trans Rb_6.out)
    have Ra_7 := Lib.hid (show w7.heap[w2.heap.size]? = some (.cells #[.bool (decide (b.1 < 0)), .slice A4 (digs b.1.natAbs).length c4, .int .i64 b.2] 26 (0, 0)) by rw [hW]; exact (heap_setCell_same _ _ 2 _ _ _ (heap_setCell_same _ _ 1 _ _ _ (heap_setCell_same _ _ 0 _ _ _ Ra_6.out))))
    clear hW hO
    clear fa0 za0 fa1 za1 fa2 za2 xa fb0 zb0 fb1 zb1 fb2 zb2 xb fr0 zr0 fr1 zr1 fr2 zr2 fr3 zr3 fr4 zr4 fr5 zr5 xr
    obtain ⟨w8, hW⟩ : ∃ W : World, W = (((w7.setCell ⟨w4.heap.size, 0, none⟩ (.bool (decide (a.1 < 0)))).setCell ⟨w4.heap.size, 1, none⟩ (.slice A2 (digs a.1.natAbs).length c2)).setCell ⟨w4.heap.size, 2, none⟩ (.int .i64 a.2)) := ⟨_, rfl⟩
    rw [← hW]
    have hO : Only (w4.heap.size) w7 w8 := by rw [hW]; exact ((((Only.refl (w4.heap.size) w7).setCell 0 _).setCell 1 _).setCell 2 _)
    have L8 := Lib.hid (live_only L7.out hO Rb_7.out noint_dy Gb)
    have Rx_8 := Lib.hid ((hO.block _ (by omega)).trans Rx_7.out)
    have Ry_8 := Lib.hid ((hO.block _ (by omega)).trans Ry_7.out)
    have Rr_8 := Lib.hid ((hO.block _ (by omega)).trans Rr_7.out)
    have Ra_8 := Lib.hid ((hO.block _ (by omega)).trans Ra_7.out)
    have Rb_8 := Lib.hid (show w8.heap[w4.heap.size]? = some (.cells #[.bool (decide (a.1 < 0)), .slice A2 (digs a.1.natAbs).length c2, .int .i64 a.2] 26 (0, 0)) by rw [hW]; exact (heap_setCell_same _ _ 2 _ _ _ (heap_setCell_same _ _ 1 _ _ _ (heap_setCell_same _ _ 0 _ _ _ Rb_7.out))))
    clear hW hO
    obtain ⟨fa0, za0, fa1, za1, fa2, za2, xa⟩ := ly3 Ra_8.out
    obtain ⟨fb0, zb0, fb1, zb1, fb2, zb2, xb⟩ := ly3 Rb_8.out
    obtain ⟨fr0, zr0, fr1, zr1, fr2, zr2, fr3, zr3, fr4, zr4, fr5, zr5, xr⟩ := ly6 Rr_8.out
    clear fa0 za0 fa1 za1 fa2 za2 xa fb0 zb0 fb1 zb1 fb2 zb2 xb fr0 zr0 fr1 zr1 fr2 zr2 fr3 zr3 fr4 zr4 fr5 zr5 xr
    obtain ⟨fr0, zr0, fr1, zr1, fr2, zr2, fr3, zr3, fr4, zr4, fr5, zr5, xr⟩ := ly6 Rr_8.out
    refine bodyPost_ret (v := .agg #[.bool (decide (b.1 < 0)), .slice A4 (digs b.1.natAbs).length c4, .int .i64 b.2, .bool (decide (a.1 < 0)), .slice A2 (digs a.1.natAbs).length c2, .int .i64 a.2]) (by simp [results, Tryz.results12, go_sem, fr0, fr1, fr2, fr3, fr4, fr5]) rfl ?_
    refine ⟨A4, c4, A2, c2, rfl, ?_, ?_, ?_⟩
    · exact (fin6 L8.out Rr_8.out noint_iv Gr).get (A := A4) (c := c4) (xs := digs b.1.natAbs) (by simp)
    · exact (fin6 L8.out Rr_8.out noint_iv Gr).get (A := A2) (c := c2) (xs := digs a.1.natAbs) (by simp)
    · exact (fin6 L8.out Rr_8.out noint_iv Gr).1

theorem span_any {Ax Ay : Option Addr} {cx cy : Nat} {sx sy : Bool} {xsx xsy : List Nat} {ex ey : Int} {a b : Qn} {s : St} {w : World} (hx : Dg w Ax cx xsx) (lx : xsx.length ≤ 9223372036854775807) (ex0 : -9223372036854775808 ≤ ex) (ex1 : ex ≤ 9223372036854775807) (hy : Dg w Ay cy xsy) (ly : xsy.length ≤ 9223372036854775807) (ey0 : -9223372036854775808 ≤ ey) (ey1 : ey ≤ 9223372036854775807) (hT : T32 w) (ha : tq sx xsx ex = a) (hb : tq sy xsy ey = b) (hs : spanS a b = s) :
    Calls Tryz.prog 12 #[.agg #[.bool sx, .slice Ax xsx.length cx, .int .i64 ex], .agg #[.bool sy, .slice Ay xsy.length cy, .int .i64 ey]] w fun e w' => Ys s w e w' := by
  unfold spanS at hs
  by_cases hc : qr b < qr a
  · rw [if_pos hc] at hs; subst hs; exact span_sw Ax cx sx xsx ex Ay cy sy xsy ey a b w hx lx ex0 ex1 hy ly ey0 ey1 hT ha hb hc
  · rw [if_neg hc] at hs; subst hs; exact span_no Ax cx sx xsx ex Ay cy sy xsy ey a b w hx lx ex0 ex1 hy ly ey0 ey1 hT ha hb hc
end Go.Proofs.YtijodbjdajddoaaGreatDoor
end

section
/-
  iv: prec, 1 by 3.
-/
namespace Go.Proofs.YtijodbjdajddoaaGreatDoor
open Go.RowKit
set_option linter.unusedSimpArgs false
set_option linter.unusedVariables false
theorem ret_iI {a b : Int} (h : a = b) : Ending.returned (.int .i64 a) = Ending.returned (.int .i64 b) := by rw [h]

/-- The law's precision. -/
def precI (p : Int) : Int := if p < 0 then 2 + (-(p + 1)) % 149 else 2 + p % 149
set_option maxRecDepth 100000 in
theorem precI_any {p q : Int} {w : World} (h0 : -9223372036854775808 ≤ p) (h1 : p ≤ 9223372036854775807) (hq : precI p = q) :
    Calls Tryz.prog 11 #[.int .i64 p] w fun e w' => e = .returned (.int .i64 q) ∧ w = w' := by
  unfold precI at hq
  by_cases h : p < 0
  · rw [if_pos h] at hq
    have d0 : decide (p < 0) = true := by simpa using h
    obtain ⟨r, hr⟩ : ∃ r, (-(p + 1)).tmod 149 = r := ⟨_, rfl⟩
    have hr2 := Int.tmod_eq_emod_of_nonneg (b := 149) (show 0 ≤ -(p + 1) by omega)
    rw [hr] at hr2
    have r0 : 0 ≤ r := by omega
    have r1 : r ≤ 148 := by omega
    have HQ := Lib.hid (show 2 + r = q by omega)
    clear hq hr2
    go_enter Tryz.func11, Tryz.ntmps11
    go_wp2
    go_ret
    exact ⟨ret_iI HQ.out, rfl⟩
  · rw [if_neg h] at hq
    have d0 : decide (p < 0) = false := by simpa using h
    have p0 : 0 ≤ p := by omega
    have HQ := Lib.hid hq
    clear hq h
    go_enter Tryz.func11, Tryz.ntmps11
    go_wp2
    go_ret
    exact ⟨ret_iI HQ.out, rfl⟩
theorem third_lo : RdOf (dv 1 0 / dv 3 0) 4 false 5 (-4) := by
  have e1 : dv 1 0 / dv 3 0 = (1 : Rat) / 3 := by unfold dv; decide +kernel
  rw [e1]
  refine ⟨.inr (by decide), .inr ⟨-5, 10, ?_, ?_, ?_⟩⟩
  · unfold Sz; decide +kernel
  · unfold Rn dv; decide +kernel
  · unfold dv; decide +kernel
theorem third_hi : RdOf (dv 1 0 / dv 3 0) 4 true 11 (-5) := by
  have e1 : dv 1 0 / dv 3 0 = (1 : Rat) / 3 := by unfold dv; decide +kernel
  rw [e1]
  refine ⟨.inr (by decide), .inr ⟨-5, 11, ?_, ?_, ?_⟩⟩
  · unfold Sz; decide +kernel
  · unfold Rn dv; decide +kernel
  · unfold dv; decide +kernel
theorem idiv_third {A B A' B' : Option Addr} {c d c' d' : Nat} {a e b f u1 v1 u2 v2 : Int} {g : Nat} {w : World} (ha : a = 1) (he : e = 0) (hb : b = 3) (hf : f = 0) (hu1 : u1 = 5) (hv1 : v1 = -4) (hu2 : u2 = 11) (hv2 : v2 = -5)
    (h : Dg w A c (digs a.natAbs)) (h' : Dg w B d (digs a.natAbs)) (k : Dg w A' c' (digs b.natAbs)) (k' : Dg w B' d' (digs b.natAbs)) (hT : T32 w) (hk : w.heap[g]? = some (.cells #[.int .i64 0, .int .i64 4] 45 (0, 0))) :
    Calls Tryz.prog 24 #[.pointer (some ⟨g, 0, none⟩), .agg #[.bool (decide (a < 0)), .slice A (digs a.natAbs).length c, .int .i64 e, .bool (decide (a < 0)), .slice B (digs a.natAbs).length d, .int .i64 e], .agg #[.bool (decide (b < 0)), .slice A' (digs b.natAbs).length c', .int .i64 f, .bool (decide (b < 0)), .slice B' (digs b.natAbs).length d', .int .i64 f]] w fun e w' => Yi u1 v1 u2 v2 w e w' := by
  have l1 : (digs a.natAbs).length ≤ 10000 := by subst ha; rw [show (digs (1 : Int).natAbs) = [1] from digs_one (by omega) (by omega)]; simp
  have l2 : (digs b.natAbs).length ≤ 10000 := by subst hb; rw [show (digs (3 : Int).natAbs) = [3] from digs_one (by omega) (by omega)]; simp
  have ra : Rt a e := by rw [ha, he]; exact ⟨.inr (by decide), by decide, by decide⟩
  have rb : Rt b f := by rw [hb, hf]; exact ⟨.inr (by decide), by decide, by decide⟩
  refine idiv_ok A B A' B' c d c' d' a e a e b f b f 4 g (fun _ _ => (u1, v1)) (fun _ _ => (u2, v2)) [(a, e)] [(b, f)] [(u1, v1)] [(u2, v2)] (u1, v1) (u2, v2) (u1, v1) (u2, v2) w h h' l1 l1 ra ra (by grind) k k' l2 l2 rb rb (by grind) (p := 4) rfl (by omega) (by omega) hT hk ?_ (if_pos rfl) (if_pos rfl) ?_ rfl rfl rfl rfl ?_ ?_ ?_ ?_
  · rw [hb, hf]; exact decide_eq_false (by unfold dv; decide +kernel)
  · intro q hq; simp at hq; subst hq; show b ≠ 0; omega
  · intro r hr q hq
    simp at hr hq
    subst hr hq
    rw [ha, he, hb, hf, hu1, hv1]
    exact ⟨third_lo, by decide +kernel⟩
  · intro r hr q hq
    simp at hr hq
    subst hr hq
    rw [ha, he, hb, hf, hu2, hv2]
    exact ⟨third_hi, by decide +kernel⟩
  · simp [lst]
  · simp [gst]
end Go.Proofs.YtijodbjdajddoaaGreatDoor
end

section
/-
  iv: the law's examples.
-/
namespace Go.Proofs.YtijodbjdajddoaaGreatDoor
open Go.RowKit
set_option linter.unusedSimpArgs false
set_option linter.unusedVariables false
theorem dg_litI {w : World} {g k : Nat} {i : Int} {T : TypeId} (h : w.heap[g]? = some (.cells #[.int .u32 i] T (0, 0))) (hi : i = (k : Int)) (hk : k < 4294967296) : Dg w (some ⟨g, 0, none⟩) 1 [k] :=
  ⟨Nat.le_refl _, by intro x hx; simp at hx; omega, fun _ => ⟨g, 0, rfl, heap_lt h, fun j hj => by
    have : j = 0 := by simp at hj; omega
    subst this hi
    exact row_c h rfl⟩⟩
set_option maxRecDepth 100000 in
theorem same511 {A B A' B' : Option Addr} {c d c' d' : Nat} {m x n y : Int} {w : World} (h : Dg w A c (digs m.natAbs)) (h' : Dg w B d (digs n.natAbs)) (k : Dg w A' c' [5]) (k' : Dg w B' d' [11]) (hm : m = 5) (hx : x = -4) (hn : n = 11) (hy : y = -5) :
    Calls Tryz.prog 23 #[.agg #[.bool (decide (m < 0)), .slice A (digs m.natAbs).length c, .int .i64 x, .bool (decide (n < 0)), .slice B (digs n.natAbs).length d, .int .i64 y], .agg #[.bool false, .slice A' 1 c', .int .i64 (-4), .bool false, .slice B' 1 d', .int .i64 (-5)]] w fun e w' => e = .returned (.bool true) ∧ Below w.heap.size w w' := by
  have e5 : digs (5 : Int).natAbs = [5] := digs_one (by omega) (by omega)
  have e11 : digs (11 : Int).natAbs = [11] := digs_one (by omega) (by omega)
  have := lsame_q (m' := 5) (x' := -4) (n' := 11) (y' := -5) (q := true) (A' := A') (B' := B') (c' := c') (d' := d') h h' (by rw [e5]; exact k) (by rw [e11]; exact k') (by rw [hm, e5]; simp) (by rw [hn, e11]; simp) (x := x) (y := y) (by simp [hm, hx, hn, hy])
  rw [e5, e11] at this
  exact this

set_option maxHeartbeats 4000000 in
set_option maxRecDepth 100000 in
theorem iexamples_any  (w : World) (hT : T32 w):
    Calls Tryz.prog 9 #[] w fun e w' => e = .returned (.bool true) ∧ Below w.heap.size w w' := by
  obtain ⟨a, ha⟩ : ∃ m : Int, m = 1 := ⟨_, rfl⟩
  obtain ⟨z, hz⟩ : ∃ m : Int, m = 0 := ⟨_, rfl⟩
  obtain ⟨b, hb⟩ : ∃ m : Int, m = 3 := ⟨_, rfl⟩
  obtain ⟨y, hy⟩ : ∃ m : Int, m = 0 := ⟨_, rfl⟩
  obtain ⟨u1, hu1⟩ : ∃ m : Int, m = 5 := ⟨_, rfl⟩
  obtain ⟨t1, ht1⟩ : ∃ m : Int, m = -4 := ⟨_, rfl⟩
  obtain ⟨u2, hu2⟩ : ∃ m : Int, m = 11 := ⟨_, rfl⟩
  obtain ⟨t2, ht2⟩ : ∃ m : Int, m = -5 := ⟨_, rfl⟩
  have N1 := Lib.hid (show nm 1 = a ∧ nx 1 0 = z by rw [ha, hz]; exact nf_of (.inr (by decide)) (by unfold dv; decide +kernel))
  have N3 := Lib.hid (show nm 3 = b ∧ nx 3 0 = y by rw [hb, hy]; exact nf_of (.inr (by decide)) (by unfold dv; decide +kernel))
  have R1 := Lib.hid (show Rt u1 t1 by rw [hu1, ht1]; exact ⟨.inr (by decide), by decide, by decide⟩)
  have R2 := Lib.hid (show Rt u2 t2 by rw [hu2, ht2]; exact ⟨.inr (by decide), by decide, by decide⟩)
  have O1 := Lib.hid (show dv u1 t1 ≤ dv u2 t2 by rw [hu1, ht1, hu2, ht2]; unfold dv; decide +kernel)
  have Q1 := Lib.hid (show decide (dv u1 t1 ≤ dv u1 t1 ∧ dv u1 t1 ≤ dv u2 t2) = true from decide_eq_true ⟨Rat.le_refl, O1.out⟩)
  have l1 := Lib.hid (show (digs u1.natAbs).length ≤ 10000 by rw [hu1, show digs (5 : Int).natAbs = [5] from digs_one (by omega) (by omega)]; simp)
  have l2 := Lib.hid (show (digs u2.natAbs).length ≤ 10000 by rw [hu2, show digs (11 : Int).natAbs = [11] from digs_one (by omega) (by omega)]; simp)
  have Ea := Lib.hid ha
  have Ez := Lib.hid hz
  have Eb := Lib.hid hb
  have Ey := Lib.hid hy
  have Eu1 := Lib.hid hu1
  have Et1 := Lib.hid ht1
  have Eu2 := Lib.hid hu2
  have Et2 := Lib.hid ht2
  clear ha hz hb hy hu1 ht1 hu2 ht2
  have HT := Lib.hid hT
  clear hT
  have L0 := Lib.hid (live_start w)
  go_enter Tryz.func9, Tryz.ntmps9
  go_wp2_with fail
  refine (inew_ok 4 _ (by omega) (by omega)).mono ?_
  rintro e w0 ⟨rfl, hw0⟩
  subst hw0
  obtain ⟨v1, hW, hb, Rk_1⟩ := new1 w (.cells #[.int .i64 0, .int .i64 4] 45)
  rw [← hW]
  have L1 := ls L0 hb
  have Gk := gl0 L0.out
  clear hW hb
  obtain ⟨fk0, zk0, fk1, zk1, xk⟩ := ly2 Rk_1.out
  go_wp2_with fail
  refine (iint_ok 1 a z 4 w.heap.size _ (t32_live HT.out L1.out) Rk_1.out (by omega) (by omega) N1.out.1 N1.out.2).mono ?_
  rintro e w2 ⟨A2, c2, B2, d2, rfl, hd, he, hb⟩
  have L2 := la2 L1 hb hd he
  clear fk0 zk0 fk1 zk1 xk
  have Rk_2 := co Rk_1 hb
  clear hb hd he
  obtain ⟨fk0, zk0, fk1, zk1, xk⟩ := ly2 Rk_2.out
  go_wp2_with fail
  refine (iint_ok 3 b y 4 w.heap.size _ (t32_live HT.out L2.out) Rk_2.out (by omega) (by omega) N3.out.1 N3.out.2).mono ?_
  rintro e w3 ⟨A3, c3, B3, d3, rfl, hd, he, hb⟩
  have L3 := la2 L2 hb hd he
  clear fk0 zk0 fk1 zk1 xk
  have Rk_3 := co Rk_2 hb
  clear hb hd he
  obtain ⟨fk0, zk0, fk1, zk1, xk⟩ := ly2 Rk_3.out
  go_wp2_with fail
  refine (idiv_third Ea.out Ez.out Eb.out Ey.out Eu1.out Et1.out Eu2.out Et2.out (L3.out.get (A := A2) (c := c2) (xs := digs a.natAbs) (by simp)) (L3.out.get (A := B2) (c := d2) (xs := digs a.natAbs) (by simp)) (L3.out.get (A := A3) (c := c3) (xs := digs b.natAbs) (by simp)) (L3.out.get (A := B3) (c := d3) (xs := digs b.natAbs) (by simp)) (t32_live HT.out L3.out) Rk_3.out).mono ?_
  rintro e w4 ⟨A4, c4, B4, d4, rfl, hd, he, hb⟩
  have L4 := la2 L3 hb hd he
  clear fk0 zk0 fk1 zk1 xk
  have Rk_4 := co Rk_3 hb
  clear hb hd he
  go_upto_region 5 with fail
  obtain ⟨w5, hW, hb, Ra_5⟩ := new1 w4 (.cells #[.bool (decide (u1 < 0)), .slice A4 (digs u1.natAbs).length c4, .int .i64 t1, .bool (decide (u2 < 0)), .slice B4 (digs u2.natAbs).length d4, .int .i64 t2] 34)
  rw [← hW]
  have L5 := ls L4 hb
  have Rk_5 := co Rk_4 hb
  have Ga := gl0 L4.out
  have Nka := nl0 Rk_4.out
  clear hW hb
  obtain ⟨fa0, za0, fa1, za1, fa2, za2, fa3, za3, fa4, za4, fa5, za5, xa⟩ := ly6 Ra_5.out
  go_wp2_with fail
  obtain ⟨w6, hW, hb, Rm_6, Rn_6⟩ := new2 w5 (.cells #[.int .u32 5] 59) (.cells #[.int .u32 11] 59)
  rw [← hW]
  have L6 := ls L5 hb
  have Rk_6 := co Rk_5 hb
  have Ra_6 := co Ra_5 hb
  have Gm := gl0 L5.out
  have Nkm := nl0 Rk_5.out
  have Nam := nl0 Ra_5.out
  have Gn := gl1 L5.out
  have Nkn := nl1 Rk_5.out
  have Nan := nl1 Ra_5.out
  have Nmn : w5.heap.size < w5.heap.size + 1 := by omega
  clear hW hb
  clear fa0 za0 fa1 za1 fa2 za2 fa3 za3 fa4 za4 fa5 za5 xa
  refine (same511 (L6.out.get (A := A4) (c := c4) (xs := digs u1.natAbs) (by simp)) (L6.out.get (A := B4) (c := d4) (xs := digs u2.natAbs) (by simp)) (dg_litI Rm_6.out rfl (by omega)) (dg_litI Rn_6.out rfl (by omega)) Eu1.out Et1.out Eu2.out Et2.out).mono ?_
  rintro e w7 ⟨rfl, hb⟩
  have L7 := ls L6 hb
  have Rk_7 := co Rk_6 hb
  have Ra_7 := co Ra_6 hb
  have Rm_7 := co Rm_6 hb
  have Rn_7 := co Rn_6 hb
  clear hb 
  obtain ⟨fk0, zk0, fk1, zk1, xk⟩ := ly2 Rk_7.out
  go_wp2_with fail
  refine (ierr_any w.heap.size 0 _ (row_c Rk_7.out (i := 0) rfl)).mono ?_
  rintro e w8 ⟨rfl, rfl⟩
  clear fk0 zk0 fk1 zk1 xk
  obtain ⟨fk0, zk0, fk1, zk1, xk⟩ := ly2 Rk_7.out
  go_wp2_with fail
  refine (iprec_any w.heap.size 4 _ (row_c Rk_7.out (i := 1) rfl)).mono ?_
  rintro e w9 ⟨rfl, rfl⟩
  clear fk0 zk0 fk1 zk1 xk
  obtain ⟨fa0, za0, fa1, za1, fa2, za2, fa3, za3, fa4, za4, fa5, za5, xa⟩ := ly6 Ra_7.out
  obtain ⟨fk0, zk0, fk1, zk1, xk⟩ := ly2 Rk_7.out
  go_wp2_with fail
  refine (ihas_any (L7.out.get (A := A4) (c := c4) (xs := digs u1.natAbs) (by simp)) (L7.out.get (A := B4) (c := d4) (xs := digs u2.natAbs) (by simp)) l1.out l2.out R1.out R2.out (L7.out.get (A := A4) (c := c4) (xs := digs u1.natAbs) (by simp)) l1.out R1.out O1.out Q1.out).mono ?_
  rintro e w10 ⟨rfl, hb⟩
  have L10 := ls L7 hb
  clear fa0 za0 fa1 za1 fa2 za2 fa3 za3 fa4 za4 fa5 za5 xa fk0 zk0 fk1 zk1 xk
  have Rk_10 := co Rk_7 hb
  have Ra_10 := co Ra_7 hb
  have Rm_10 := co Rm_7 hb
  have Rn_10 := co Rn_7 hb
  clear hb 
  go_wp2
  go_ret
  exact ⟨rfl, L10.out.1⟩
end Go.Proofs.YtijodbjdajddoaaGreatDoor
end

section
/-
  iv: inside.
-/
namespace Go.Proofs.YtijodbjdajddoaaGreatDoor
open Go.RowKit
set_option linter.unusedSimpArgs false
set_option linter.unusedVariables false
/-- Which number of a stretch. -/
def k3 (how : Int) : Int := (if how < 0 then -(how + 1) else how) % 3
def InR (s : St) (how : Int) (m : Qn) : Prop := (k3 how = 0 ∧ m = s.lo) ∨ (k3 how = 1 ∧ m = s.hi) ∨ (k3 how = 2 ∧ ∃ a : Qn, IsQ (qr s.lo + qr s.hi) a ∧ Qo a ∧ IsQ (qr a * 2 ^ (-1 : Int)) m ∧ Qo m)
theorem inside_ex {L H : Int} {s : St} (hs : Sb L H s) (how : Int) (hL : -65536 ≤ L - 1) (hH : H + 1 ≤ 65536) : ∃ m, InR s how m ∧ Qb (L - 1) (H + 1) m ∧ Ins (qr m) s := by
  have hk : k3 how = 0 ∨ k3 how = 1 ∨ k3 how = 2 := by unfold k3; omega
  rcases hk with h | h | h
  · exact ⟨s.lo, .inl ⟨h, rfl⟩, hs.1.mono (by omega) (by omega), Rat.le_refl, hs.2.2⟩
  · exact ⟨s.hi, .inr (.inl ⟨h, rfl⟩), hs.2.1.mono (by omega) (by omega), hs.2.2, Rat.le_refl⟩
  · obtain ⟨a, ha⟩ := isQ_add s.lo s.hi
    have ba := hs.1.add hs.2.1 ha
    obtain ⟨b, hb⟩ := isQ_scale a (-1)
    have bb := ba.scale hb
    refine ⟨b, .inr (.inr ⟨h, a, ha, ba.ok (by omega) (by omega), hb, bb.ok (by omega) (by omega)⟩), bb.mono (by omega) (by omega), ?_⟩
    have e : qr b = (qr s.lo + qr s.hi) * (1 / 2 : Rat) := by
      rw [isq_v hb, isq_v ha, show (2 : Rat) ^ (-1 : Int) = 1 / 2 by decide +kernel]
    have := hs.2.2
    unfold Ins
    rw [e]
    grind

theorem precI_bd (p : Int) : 2 ≤ precI p ∧ precI p ≤ 150 := by unfold precI; omega

set_option maxHeartbeats 4000000 in
set_option maxRecDepth 100000 in
theorem inside_n0 (A B : Option Addr) (c d : Nat) (s : St) (how : Int) (w : World) (h : Dg w A c (digs s.lo.1.natAbs)) (h' : Dg w B d (digs s.hi.1.natAbs)) (os : So s) (hT : T32 w) (h0 : -9223372036854775808 ≤ how) (h1 : how ≤ 9223372036854775807) (hn : how < 0) (hk : k3 how = 0):
    Calls Tryz.prog 13 #[.agg #[.bool (decide (s.lo.1 < 0)), .slice A (digs s.lo.1.natAbs).length c, .int .i64 s.lo.2, .bool (decide (s.hi.1 < 0)), .slice B (digs s.hi.1.natAbs).length d, .int .i64 s.hi.2], .int .i64 how] w fun e w' => Yq s.lo w e w' := by
  unfold k3 at hk
  rw [if_pos hn] at hk
  have hr : Int.tmod (-(how + 1)) 3 = 0 := by rw [Int.tmod_eq_emod_of_nonneg (by omega)]; exact hk
  have d0 : decide (how < 0) = true := by simp; omega
  have OS := Lib.hid os
  have HT := Lib.hid hT
  clear hT
  have L0 := Lib.hid (((live_start w).add h).add h')
  clear h h' os hk
  go_enter Tryz.func13, Tryz.ntmps13
  go_upto_region 1 with fail
  obtain ⟨v1, hW, hb, Ri_1, Rr_1⟩ := new2 w (.cells #[.bool (decide (s.lo.1 < 0)), .slice A (digs s.lo.1.natAbs).length c, .int .i64 s.lo.2, .bool (decide (s.hi.1 < 0)), .slice B (digs s.hi.1.natAbs).length d, .int .i64 s.hi.2] 34) (.cells #[.bool false, .slice none 0 0, .int .i64 0] 26)
  rw [← hW]
  have L1 := ls L0 hb
  have Gi := gl0 L0.out
  have Gr := gl1 L0.out
  have Nir : w.heap.size < w.heap.size + 1 := by omega
  clear hW hb
  obtain ⟨fi0, zi0, fi1, zi1, fi2, zi2, fi3, zi3, fi4, zi4, fi5, zi5, xi⟩ := ly6 Ri_1.out
  obtain ⟨fr0, zr0, fr1, zr1, fr2, zr2, xr⟩ := ly3 Rr_1.out
  go_wp2
  refine bodyPost_ret (v := .agg #[.bool (decide (s.lo.1 < 0)), .slice A (digs s.lo.1.natAbs).length c, .int .i64 s.lo.2]) (by simp [results, Tryz.results13, go_sem, fi0, fi1, fi2, fi3, fi4, fi5, fr0, fr1, fr2]) rfl ?_
  
  refine ⟨A, c, rfl, ?_, ?_⟩
  · exact (fin3 L1.out Rr_1.out noint3 Gr).get (A := A) (c := c) (xs := digs s.lo.1.natAbs) (by simp)
  · exact (fin3 L1.out Rr_1.out noint3 Gr).1

set_option maxHeartbeats 4000000 in
set_option maxRecDepth 100000 in
theorem inside_p0 (A B : Option Addr) (c d : Nat) (s : St) (how : Int) (w : World) (h : Dg w A c (digs s.lo.1.natAbs)) (h' : Dg w B d (digs s.hi.1.natAbs)) (os : So s) (hT : T32 w) (h0 : -9223372036854775808 ≤ how) (h1 : how ≤ 9223372036854775807) (hn : 0 ≤ how) (hk : k3 how = 0):
    Calls Tryz.prog 13 #[.agg #[.bool (decide (s.lo.1 < 0)), .slice A (digs s.lo.1.natAbs).length c, .int .i64 s.lo.2, .bool (decide (s.hi.1 < 0)), .slice B (digs s.hi.1.natAbs).length d, .int .i64 s.hi.2], .int .i64 how] w fun e w' => Yq s.lo w e w' := by
  unfold k3 at hk
  rw [if_neg (by omega)] at hk
  have hr : Int.tmod how 3 = 0 := by rw [Int.tmod_eq_emod_of_nonneg (by omega)]; exact hk
  have d0 : decide (how < 0) = false := by simp; omega
  have OS := Lib.hid os
  have HT := Lib.hid hT
  clear hT
  have L0 := Lib.hid (((live_start w).add h).add h')
  clear h h' os hk
  go_enter Tryz.func13, Tryz.ntmps13
  go_upto_region 1 with fail
  obtain ⟨v1, hW, hb, Ri_1, Rr_1⟩ := new2 w (.cells #[.bool (decide (s.lo.1 < 0)), .slice A (digs s.lo.1.natAbs).length c, .int .i64 s.lo.2, .bool (decide (s.hi.1 < 0)), .slice B (digs s.hi.1.natAbs).length d, .int .i64 s.hi.2] 34) (.cells #[.bool false, .slice none 0 0, .int .i64 0] 26)
  rw [← hW]
  have L1 := ls L0 hb
  have Gi := gl0 L0.out
  have Gr := gl1 L0.out
  have Nir : w.heap.size < w.heap.size + 1 := by omega
  clear hW hb
  obtain ⟨fi0, zi0, fi1, zi1, fi2, zi2, fi3, zi3, fi4, zi4, fi5, zi5, xi⟩ := ly6 Ri_1.out
  obtain ⟨fr0, zr0, fr1, zr1, fr2, zr2, xr⟩ := ly3 Rr_1.out
  go_wp2
  refine bodyPost_ret (v := .agg #[.bool (decide (s.lo.1 < 0)), .slice A (digs s.lo.1.natAbs).length c, .int .i64 s.lo.2]) (by simp [results, Tryz.results13, go_sem, fi0, fi1, fi2, fi3, fi4, fi5, fr0, fr1, fr2]) rfl ?_
  
  refine ⟨A, c, rfl, ?_, ?_⟩
  · exact (fin3 L1.out Rr_1.out noint3 Gr).get (A := A) (c := c) (xs := digs s.lo.1.natAbs) (by simp)
  · exact (fin3 L1.out Rr_1.out noint3 Gr).1

set_option maxHeartbeats 4000000 in
set_option maxRecDepth 100000 in
theorem inside_n1 (A B : Option Addr) (c d : Nat) (s : St) (how : Int) (w : World) (h : Dg w A c (digs s.lo.1.natAbs)) (h' : Dg w B d (digs s.hi.1.natAbs)) (os : So s) (hT : T32 w) (h0 : -9223372036854775808 ≤ how) (h1 : how ≤ 9223372036854775807) (hn : how < 0) (hk : k3 how = 1):
    Calls Tryz.prog 13 #[.agg #[.bool (decide (s.lo.1 < 0)), .slice A (digs s.lo.1.natAbs).length c, .int .i64 s.lo.2, .bool (decide (s.hi.1 < 0)), .slice B (digs s.hi.1.natAbs).length d, .int .i64 s.hi.2], .int .i64 how] w fun e w' => Yq s.hi w e w' := by
  unfold k3 at hk
  rw [if_pos hn] at hk
  have hr : Int.tmod (-(how + 1)) 3 = 1 := by rw [Int.tmod_eq_emod_of_nonneg (by omega)]; exact hk
  have d0 : decide (how < 0) = true := by simp; omega
  have OS := Lib.hid os
  have HT := Lib.hid hT
  clear hT
  have L0 := Lib.hid (((live_start w).add h).add h')
  clear h h' os hk
  go_enter Tryz.func13, Tryz.ntmps13
  go_upto_region 1 with fail
  obtain ⟨v1, hW, hb, Ri_1, Rr_1⟩ := new2 w (.cells #[.bool (decide (s.lo.1 < 0)), .slice A (digs s.lo.1.natAbs).length c, .int .i64 s.lo.2, .bool (decide (s.hi.1 < 0)), .slice B (digs s.hi.1.natAbs).length d, .int .i64 s.hi.2] 34) (.cells #[.bool false, .slice none 0 0, .int .i64 0] 26)
  rw [← hW]
  have L1 := ls L0 hb
  have Gi := gl0 L0.out
  have Gr := gl1 L0.out
  have Nir : w.heap.size < w.heap.size + 1 := by omega
  clear hW hb
  obtain ⟨fi0, zi0, fi1, zi1, fi2, zi2, fi3, zi3, fi4, zi4, fi5, zi5, xi⟩ := ly6 Ri_1.out
  obtain ⟨fr0, zr0, fr1, zr1, fr2, zr2, xr⟩ := ly3 Rr_1.out
  go_wp2
  refine bodyPost_ret (v := .agg #[.bool (decide (s.hi.1 < 0)), .slice B (digs s.hi.1.natAbs).length d, .int .i64 s.hi.2]) (by simp [results, Tryz.results13, go_sem, fi0, fi1, fi2, fi3, fi4, fi5, fr0, fr1, fr2]) rfl ?_
  
  refine ⟨B, d, rfl, ?_, ?_⟩
  · exact (fin3 L1.out Rr_1.out noint3 Gr).get (A := B) (c := d) (xs := digs s.hi.1.natAbs) (by simp)
  · exact (fin3 L1.out Rr_1.out noint3 Gr).1

set_option maxHeartbeats 4000000 in
set_option maxRecDepth 100000 in
theorem inside_p1 (A B : Option Addr) (c d : Nat) (s : St) (how : Int) (w : World) (h : Dg w A c (digs s.lo.1.natAbs)) (h' : Dg w B d (digs s.hi.1.natAbs)) (os : So s) (hT : T32 w) (h0 : -9223372036854775808 ≤ how) (h1 : how ≤ 9223372036854775807) (hn : 0 ≤ how) (hk : k3 how = 1):
    Calls Tryz.prog 13 #[.agg #[.bool (decide (s.lo.1 < 0)), .slice A (digs s.lo.1.natAbs).length c, .int .i64 s.lo.2, .bool (decide (s.hi.1 < 0)), .slice B (digs s.hi.1.natAbs).length d, .int .i64 s.hi.2], .int .i64 how] w fun e w' => Yq s.hi w e w' := by
  unfold k3 at hk
  rw [if_neg (by omega)] at hk
  have hr : Int.tmod how 3 = 1 := by rw [Int.tmod_eq_emod_of_nonneg (by omega)]; exact hk
  have d0 : decide (how < 0) = false := by simp; omega
  have OS := Lib.hid os
  have HT := Lib.hid hT
  clear hT
  have L0 := Lib.hid (((live_start w).add h).add h')
  clear h h' os hk
  go_enter Tryz.func13, Tryz.ntmps13
  go_upto_region 1 with fail
  obtain ⟨v1, hW, hb, Ri_1, Rr_1⟩ := new2 w (.cells #[.bool (decide (s.lo.1 < 0)), .slice A (digs s.lo.1.natAbs).length c, .int .i64 s.lo.2, .bool (decide (s.hi.1 < 0)), .slice B (digs s.hi.1.natAbs).length d, .int .i64 s.hi.2] 34) (.cells #[.bool false, .slice none 0 0, .int .i64 0] 26)
  rw [← hW]
  have L1 := ls L0 hb
  have Gi := gl0 L0.out
  have Gr := gl1 L0.out
  have Nir : w.heap.size < w.heap.size + 1 := by omega
  clear hW hb
  obtain ⟨fi0, zi0, fi1, zi1, fi2, zi2, fi3, zi3, fi4, zi4, fi5, zi5, xi⟩ := ly6 Ri_1.out
  obtain ⟨fr0, zr0, fr1, zr1, fr2, zr2, xr⟩ := ly3 Rr_1.out
  go_wp2
  refine bodyPost_ret (v := .agg #[.bool (decide (s.hi.1 < 0)), .slice B (digs s.hi.1.natAbs).length d, .int .i64 s.hi.2]) (by simp [results, Tryz.results13, go_sem, fi0, fi1, fi2, fi3, fi4, fi5, fr0, fr1, fr2]) rfl ?_
  
  refine ⟨B, d, rfl, ?_, ?_⟩
  · exact (fin3 L1.out Rr_1.out noint3 Gr).get (A := B) (c := d) (xs := digs s.hi.1.natAbs) (by simp)
  · exact (fin3 L1.out Rr_1.out noint3 Gr).1

set_option maxHeartbeats 4000000 in
set_option maxRecDepth 100000 in
theorem inside_n2 (A B : Option Addr) (c d : Nat) (s : St) (how : Int) (w : World) (h : Dg w A c (digs s.lo.1.natAbs)) (h' : Dg w B d (digs s.hi.1.natAbs)) (os : So s) (hT : T32 w) (h0 : -9223372036854775808 ≤ how) (h1 : how ≤ 9223372036854775807) (hn : how < 0) (hk : k3 how = 2) {a m : Qn} (ia : IsQ (qr s.lo + qr s.hi) a) (oa : Qo a) (im : IsQ (qr a * 2 ^ (-1 : Int)) m) (om : Qo m):
    Calls Tryz.prog 13 #[.agg #[.bool (decide (s.lo.1 < 0)), .slice A (digs s.lo.1.natAbs).length c, .int .i64 s.lo.2, .bool (decide (s.hi.1 < 0)), .slice B (digs s.hi.1.natAbs).length d, .int .i64 s.hi.2], .int .i64 how] w fun e w' => Yq m w e w' := by
  unfold k3 at hk
  rw [if_pos hn] at hk
  have hr : Int.tmod (-(how + 1)) 3 = 2 := by rw [Int.tmod_eq_emod_of_nonneg (by omega)]; exact hk
  have d0 : decide (how < 0) = true := by simp; omega
  have OS := Lib.hid os
  have IA := Lib.hid ia
  have OA := Lib.hid oa
  have IM := Lib.hid im
  have OM := Lib.hid om
  have HT := Lib.hid hT
  clear hT
  have L0 := Lib.hid (((live_start w).add h).add h')
  clear h h' os hk ia oa im om
  go_enter Tryz.func13, Tryz.ntmps13
  go_upto_region 1 with fail
  obtain ⟨v1, hW, hb, Ri_1, Rr_1⟩ := new2 w (.cells #[.bool (decide (s.lo.1 < 0)), .slice A (digs s.lo.1.natAbs).length c, .int .i64 s.lo.2, .bool (decide (s.hi.1 < 0)), .slice B (digs s.hi.1.natAbs).length d, .int .i64 s.hi.2] 34) (.cells #[.bool false, .slice none 0 0, .int .i64 0] 26)
  rw [← hW]
  have L1 := ls L0 hb
  have Gi := gl0 L0.out
  have Gr := gl1 L0.out
  have Nir : w.heap.size < w.heap.size + 1 := by omega
  clear hW hb
  obtain ⟨fi0, zi0, fi1, zi1, fi2, zi2, fi3, zi3, fi4, zi4, fi5, zi5, xi⟩ := ly6 Ri_1.out
  go_wp2_with fail
  refine (qadd (L1.out.get (A := A) (c := c) (xs := digs s.lo.1.natAbs) (by simp)) (L1.out.get (A := B) (c := d) (xs := digs s.hi.1.natAbs) (by simp)) OS.out.1 OS.out.2.1 (t32_live HT.out L1.out) IA.out OA.out).mono ?_
  rintro e w2 ⟨A2, c2, rfl, hd, hb⟩
  have L2 := la L1 hb hd
  clear fi0 zi0 fi1 zi1 fi2 zi2 fi3 zi3 fi4 zi4 fi5 zi5 xi
  have Ri_2 := co Ri_1 hb
  have Rr_2 := co Rr_1 hb
  clear hb hd
  go_wp2_with fail
  obtain ⟨w3, hW, hb, Ra_3⟩ := new1 w2 (.cells #[.bool (decide (a.1 < 0)), .slice A2 (digs a.1.natAbs).length c2, .int .i64 a.2] 26)
  rw [← hW]
  have L3 := ls L2 hb
  have Ri_3 := co Ri_2 hb
  have Rr_3 := co Rr_2 hb
  have Ga := gl0 L2.out
  have Nia := nl0 Ri_2.out
  have Nra := nl0 Rr_2.out
  clear hW hb
  refine (qscale (L3.out.get (A := A2) (c := c2) (xs := digs a.1.natAbs) (by simp)) OA.out (t32_live HT.out L3.out) (by omega) (by omega) IM.out OM.out).mono ?_
  rintro e w4 ⟨A4, c4, rfl, hd, hb⟩
  have L4 := la L3 hb hd
  have Ri_4 := co Ri_3 hb
  have Rr_4 := co Rr_3 hb
  have Ra_4 := co Ra_3 hb
  clear hb hd
  go_upto_region 9 with fail
  obtain ⟨w5, hW, hb, Rm_5⟩ := new1 w4 (.cells #[.bool (decide (m.1 < 0)), .slice A4 (digs m.1.natAbs).length c4, .int .i64 m.2] 26)
  rw [← hW]
  have L5 := ls L4 hb
  have Ri_5 := co Ri_4 hb
  have Rr_5 := co Rr_4 hb
  have Ra_5 := co Ra_4 hb
  have Gm := gl0 L4.out
  have Nim := nl0 Ri_4.out
  have Nrm := nl0 Rr_4.out
  have Nam := nl0 Ra_4.out
  clear hW hb
  obtain ⟨fm0, zm0, fm1, zm1, fm2, zm2, xm⟩ := ly3 Rm_5.out
  obtain ⟨fr0, zr0, fr1, zr1, fr2, zr2, xr⟩ := ly3 Rr_5.out
  go_wp2
  refine bodyPost_ret (v := .agg #[.bool (decide (m.1 < 0)), .slice A4 (digs m.1.natAbs).length c4, .int .i64 m.2]) (by simp [results, Tryz.results13, go_sem, fm0, fm1, fm2, fr0, fr1, fr2]) rfl ?_
  
  -- settle
  refine ⟨A4, c4, rfl, ?_, ?_⟩
  · exact (fin3 L5.out Rr_5.out noint3 Gr).get (A := A4) (c := c4) (xs := digs m.1.natAbs) (by simp)
  · exact (fin3 L5.out Rr_5.out noint3 Gr).1

set_option maxHeartbeats 4000000 in
set_option maxRecDepth 100000 in
theorem inside_p2 (A B : Option Addr) (c d : Nat) (s : St) (how : Int) (w : World) (h : Dg w A c (digs s.lo.1.natAbs)) (h' : Dg w B d (digs s.hi.1.natAbs)) (os : So s) (hT : T32 w) (h0 : -9223372036854775808 ≤ how) (h1 : how ≤ 9223372036854775807) (hn : 0 ≤ how) (hk : k3 how = 2) {a m : Qn} (ia : IsQ (qr s.lo + qr s.hi) a) (oa : Qo a) (im : IsQ (qr a * 2 ^ (-1 : Int)) m) (om : Qo m):
    Calls Tryz.prog 13 #[.agg #[.bool (decide (s.lo.1 < 0)), .slice A (digs s.lo.1.natAbs).length c, .int .i64 s.lo.2, .bool (decide (s.hi.1 < 0)), .slice B (digs s.hi.1.natAbs).length d, .int .i64 s.hi.2], .int .i64 how] w fun e w' => Yq m w e w' := by
  unfold k3 at hk
  rw [if_neg (by omega)] at hk
  have hr : Int.tmod how 3 = 2 := by rw [Int.tmod_eq_emod_of_nonneg (by omega)]; exact hk
  have d0 : decide (how < 0) = false := by simp; omega
  have OS := Lib.hid os
  have IA := Lib.hid ia
  have OA := Lib.hid oa
  have IM := Lib.hid im
  have OM := Lib.hid om
  have HT := Lib.hid hT
  clear hT
  have L0 := Lib.hid (((live_start w).add h).add h')
  clear h h' os hk ia oa im om
  go_enter Tryz.func13, Tryz.ntmps13
  go_upto_region 1 with fail
  obtain ⟨v1, hW, hb, Ri_1, Rr_1⟩ := new2 w (.cells #[.bool (decide (s.lo.1 < 0)), .slice A (digs s.lo.1.natAbs).length c, .int .i64 s.lo.2, .bool (decide (s.hi.1 < 0)), .slice B (digs s.hi.1.natAbs).length d, .int .i64 s.hi.2] 34) (.cells #[.bool false, .slice none 0 0, .int .i64 0] 26)
  rw [← hW]
  have L1 := ls L0 hb
  have Gi := gl0 L0.out
  have Gr := gl1 L0.out
  have Nir : w.heap.size < w.heap.size + 1 := by omega
  clear hW hb
  obtain ⟨fi0, zi0, fi1, zi1, fi2, zi2, fi3, zi3, fi4, zi4, fi5, zi5, xi⟩ := ly6 Ri_1.out
  go_wp2_with fail
  refine (qadd (L1.out.get (A := A) (c := c) (xs := digs s.lo.1.natAbs) (by simp)) (L1.out.get (A := B) (c := d) (xs := digs s.hi.1.natAbs) (by simp)) OS.out.1 OS.out.2.1 (t32_live HT.out L1.out) IA.out OA.out).mono ?_
  rintro e w2 ⟨A2, c2, rfl, hd, hb⟩
  have L2 := la L1 hb hd
  clear fi0 zi0 fi1 zi1 fi2 zi2 fi3 zi3 fi4 zi4 fi5 zi5 xi
  have Ri_2 := co Ri_1 hb
  have Rr_2 := co Rr_1 hb
  clear hb hd
  go_wp2_with fail
  obtain ⟨w3, hW, hb, Ra_3⟩ := new1 w2 (.cells #[.bool (decide (a.1 < 0)), .slice A2 (digs a.1.natAbs).length c2, .int .i64 a.2] 26)
  rw [← hW]
  have L3 := ls L2 hb
  have Ri_3 := co Ri_2 hb
  have Rr_3 := co Rr_2 hb
  have Ga := gl0 L2.out
  have Nia := nl0 Ri_2.out
  have Nra := nl0 Rr_2.out
  clear hW hb
  refine (qscale (L3.out.get (A := A2) (c := c2) (xs := digs a.1.natAbs) (by simp)) OA.out (t32_live HT.out L3.out) (by omega) (by omega) IM.out OM.out).mono ?_
  rintro e w4 ⟨A4, c4, rfl, hd, hb⟩
  have L4 := la L3 hb hd
  have Ri_4 := co Ri_3 hb
  have Rr_4 := co Rr_3 hb
  have Ra_4 := co Ra_3 hb
  clear hb hd
  go_upto_region 9 with fail
  obtain ⟨w5, hW, hb, Rm_5⟩ := new1 w4 (.cells #[.bool (decide (m.1 < 0)), .slice A4 (digs m.1.natAbs).length c4, .int .i64 m.2] 26)
  rw [← hW]
  have L5 := ls L4 hb
  have Ri_5 := co Ri_4 hb
  have Rr_5 := co Rr_4 hb
  have Ra_5 := co Ra_4 hb
  have Gm := gl0 L4.out
  have Nim := nl0 Ri_4.out
  have Nrm := nl0 Rr_4.out
  have Nam := nl0 Ra_4.out
  clear hW hb
  obtain ⟨fm0, zm0, fm1, zm1, fm2, zm2, xm⟩ := ly3 Rm_5.out
  obtain ⟨fr0, zr0, fr1, zr1, fr2, zr2, xr⟩ := ly3 Rr_5.out
  go_wp2
  refine bodyPost_ret (v := .agg #[.bool (decide (m.1 < 0)), .slice A4 (digs m.1.natAbs).length c4, .int .i64 m.2]) (by simp [results, Tryz.results13, go_sem, fm0, fm1, fm2, fr0, fr1, fr2]) rfl ?_
  
  -- settle
  refine ⟨A4, c4, rfl, ?_, ?_⟩
  · exact (fin3 L5.out Rr_5.out noint3 Gr).get (A := A4) (c := c4) (xs := digs m.1.natAbs) (by simp)
  · exact (fin3 L5.out Rr_5.out noint3 Gr).1

theorem inside_any {A B : Option Addr} {c d : Nat} {s : St} {how : Int} {m : Qn} {w : World} (h : Dg w A c (digs s.lo.1.natAbs)) (h' : Dg w B d (digs s.hi.1.natAbs)) (os : So s) (hT : T32 w) (h0 : -9223372036854775808 ≤ how) (h1 : how ≤ 9223372036854775807) (hm : InR s how m) :
    Calls Tryz.prog 13 #[.agg #[.bool (decide (s.lo.1 < 0)), .slice A (digs s.lo.1.natAbs).length c, .int .i64 s.lo.2, .bool (decide (s.hi.1 < 0)), .slice B (digs s.hi.1.natAbs).length d, .int .i64 s.hi.2], .int .i64 how] w fun e w' => Yq m w e w' := by
  rcases hm with ⟨hk, rfl⟩ | ⟨hk, rfl⟩ | ⟨hk, a, ia, oa, im, om⟩ <;> by_cases hn : how < 0
  · exact inside_n0 A B c d s how w h h' os hT h0 h1 hn hk
  · exact inside_p0 A B c d s how w h h' os hT h0 h1 (by omega) hk
  · exact inside_n1 A B c d s how w h h' os hT h0 h1 hn hk
  · exact inside_p1 A B c d s how w h h' os hT h0 h1 (by omega) hk
  · exact inside_n2 A B c d s how w h h' os hT h0 h1 hn hk ia oa im om
  · exact inside_p2 A B c d s how w h h' os hT h0 h1 (by omega) hk ia oa im om
end Go.Proofs.YtijodbjdajddoaaGreatDoor
end

section
/-
  From a law's walk to its statement: what comes in is opened, read again behind the call, and handed on.
-/
namespace Go.Proofs.YtijodbjdajddoaaGreatDoor
open Go.RowKit Go.WideShapes Go.ChangeShapes Go.ChangeAt
set_option maxRecDepth 100000
theorem own : ownKnob Tryz.prog.godebug = none := by kernel_rfl
theorem laidOut : laidOutB Tryz.prog = true := by kernel_rfl
theorem below_cell_lt {w : World} {b o : Nat} {v : Value} (h : w.cell? ⟨b, o, none⟩ = some v) : b < w.heap.size := by
  rcases Nat.lt_or_ge b w.heap.size with hlt | hge
  · exact hlt
  · have e := Array.getElem?_eq_none hge
    simp [World.cell?, e] at h
theorem cellsElem : Tryz.prog.cellsOf 59 = 1 := by kernel_rfl
/-- A slice of digits that came in. -/
theorem open_dg {H : Type} {enc : TypeId × Value → H} {W : World} {base : Nat} {spare : Nat → Bool} {held : Bool} {v : Value} {d : DataW H} {ps : List MemPlace}
    (hval : Value.okWide Tryz.prog W .any base 22 v) (hd : DataW.Trod enc Tryz.prog W 0 spare held 22 v d ps) : ∃ A c xs, v = .slice A xs.length c ∧ Dg W A c xs := by
  obtain ⟨a0, len, cap, rfl⟩ := okWide_slice Tryz.underlying22 hval
  obtain ⟨fuel, hf⟩ := hd
  rcases open_ints Tryz.underlying22 Tryz.underlying59 cellsElem hf with ⟨hcs, _⟩ | ⟨a, len', cap', zs, hcs, _, hl, hm, hz, _, hcell, hwz⟩
  · simp [Value.cells] at hcs
    obtain ⟨rfl, rfl, rfl⟩ := hcs
    exact ⟨none, 0, [], rfl, Dg.nil_ _ _⟩
  · simp [Value.cells] at hcs
    obtain ⟨rfl, rfl, rfl⟩ := hcs
    have hlz : len ≤ zs.length := by rw [hz]; split <;> omega
    have hn : ∀ n ∈ zs, 0 ≤ n ∧ n ≤ 4294967295 := fun n hn => by simpa [Lit.wf, IntKind.min, IntKind.max, IntKind.signed, IntKind.bits] using hwz n hn
    have hxl : ((zs.take len).map Int.toNat).length = len := by simp; omega
    refine ⟨some a, cap, (zs.take len).map Int.toNat, by rw [hxl], by rw [hxl]; exact hl, ?_, fun h0 => ?_⟩
    · intro x hx
      obtain ⟨z, hz', rfl⟩ := List.mem_map.1 hx
      have := hn z (List.mem_of_mem_take hz')
      omega
    · rw [hxl] at h0
      obtain ⟨b, off, spot⟩ := a
      have hspot : spot = none := by simpa [Addr.add] using World.cell?_spot (hcell 0 (by omega))
      subst hspot
      refine ⟨b, off, rfl, below_cell_lt (v := .int .u32 (zs.getD 0 0)) (o := off) (by have := hcell 0 (by omega); simpa [Addr.add] using this), fun j hj => ?_⟩
      rw [hxl] at hj
      have hc := hcell j (by omega)
      rw [Addr.add_lit] at hc
      rw [hc]
      have hjz : j < zs.length := by omega
      have hb := hn zs[j] (List.getElem_mem hjz)
      simp [hj, List.getElem?_eq_getElem hjz]
      omega
section
variable {H : Type} {enc : TypeId × Value → H} {P : Program}
/-- A law's end: true; older memory stays; each argument reads as it read. -/
theorem law_post {f : Func} {s : ChangeSpec} {W W' : World} {args : Array Value} {ds : List (DataW H)} {before : List MemPlace} {tb : TypeId}
    (hW : DataW.Whole enc P f.params.toList s.vars false W args.toList ds [] before) (hb : Below W.heap.size W W') (hv : s.vars = []) (hrt : f.resultTypes = #[tb]) (htb : P.underlying tb = some .bool)
    (hsr : (s.fn H (ds ++ [])).results = [.lit (.bool true)]) (hsv : (s.fn H (ds ++ [])).vars = [])
    (hargs : ∀ sp : Nat → Bool, (∀ p ∈ before, sp p.block = true) → DataW.TrodAll enc P W' 0 sp true f.params.toList args.toList (s.fn H (ds ++ [])).args before) :
    s.post enc P f false true false false W args (.bool true) W' := by
  have hlt : ∀ p ∈ before, p.block < W.heap.size := fun p hp => hW.lt p hp
  have hold : ∀ p ∈ before, (fun b => decide (b < W.heap.size)) p.block = true := fun p hp => by simpa using hlt p hp
  have hvars : ∀ sp : Nat → Bool, DataW.TrodVars enc P W' sp s.vars (s.fn H (ds ++ [])).vars [] := fun sp => by rw [hv, hsv]; rfl
  refine ⟨ds, [], before, [], before, [], hW, ?_, hargs _ hold, hvars _, World.keptBut_mono (fun p hp => ⟨hp, by simpa using hp⟩) (hb.frame (· ∈ before)), fun h => by cases h⟩
  rw [hrt, hsr]
  exact trodAll_cons_mk (shut_bool htb _) trodAll_mk0
end
/-- An argument reads behind the call as it read ahead of it. -/
theorem again {H : Type} {enc : TypeId × Value → H} {W W' : World} {t : TypeId} {v : Value} {d : DataW H} {ps : List MemPlace} (hr : Tryz.prog.readableRec t = true) (hrow : t < Tryz.prog.types.size)
    (h : DataW.Trod enc Tryz.prog W 0 (fun _ => true) true t v d ps) (hb : Below W.heap.size W W') (hlt : ∀ x ∈ ps, x.block < W.heap.size) (sp : Nat → Bool) (hsp : ∀ x ∈ ps, sp x.block = true) :
    DataW.Trod enc Tryz.prog W' 0 sp true t v d ps :=
  WideElems.Trod_stays laidOut hr hrow h (fun x hx => hb.same (hlt x hx)) hsp
end Go.Proofs.YtijodbjdajddoaaGreatDoor
end

section
/-
  From a walk of layer 5 to its card: what the laid table gives, and a number that comes in.
-/
namespace Go.Proofs.YtijodbjdajddoaaGreatDoor
open Go.RowKit Go.WideShapes Go.ChangeShapes Go.ChangeAt Go.Deep
set_option maxRecDepth 100000
theorem i64_lo {a : Int} (g : (Lit.int .i64 a).wf = true) : -9223372036854775808 ≤ a := by
  simp only [Lit.wf, Bool.and_eq_true, decide_eq_true_eq] at g; exact g.1
theorem i64_hi {a : Int} (g : (Lit.int .i64 a).wf = true) : a ≤ 9223372036854775807 := by
  simp only [Lit.wf, Bool.and_eq_true, decide_eq_true_eq] at g; exact g.2
theorem i32_lo {a : Int} (g : (Lit.int .i32 a).wf = true) : -2147483648 ≤ a := by
  simp only [Lit.wf, Bool.and_eq_true, decide_eq_true_eq] at g; exact g.1
theorem i32_hi {a : Int} (g : (Lit.int .i32 a).wf = true) : a ≤ 2147483647 := by
  simp only [Lit.wf, Bool.and_eq_true, decide_eq_true_eq] at g; exact g.2
theorem t32Type : (Tryz.prog.globals[0]?).map (·.type) = some 132 := by kernel_rfl
/-- THE TABLE OF BITS, out of the row's condition. -/
theorem t32_laid {W : World} {xs : List (String × DataW Unit)} (h : laidMet Tryz.prog (("math/bits.deBruijn32tab", Lib.tabData .u8 tab32) :: xs) W) : T32 W :=
  Lib.tabIs_of_head g32 t32Type Tryz.underlying132 Tryz.underlying5 (by kernel_rfl) (by kernel_rfl) h
/-- Digits that came in as a part. -/
theorem open_dg0 {H : Type} {enc : TypeId × Value → H} {W : World} {spare : Nat → Bool} {held : Bool} {a0 : Option Addr} {len cap : Nat} {y : DataW H × List MemPlace}
    (hd : ∃ n, DataW.trod enc Tryz.prog W 0 spare held n 22 [.slice a0 len cap] = some y) : ∃ A c xs, Value.slice a0 len cap = .slice A xs.length c ∧ Dg W A c xs ∧ xs.length ≤ 9223372036854775807 := by
  obtain ⟨fuel, hf⟩ := hd
  obtain ⟨d, ps⟩ := y
  rcases open_ints Tryz.underlying22 Tryz.underlying59 cellsElem hf with ⟨hcs, _⟩ | ⟨a, len', cap', zs, hcs, _, hl, hm, hz, _, hcell, hwz⟩
  · simp at hcs
    obtain ⟨rfl, rfl, rfl⟩ := hcs
    exact ⟨none, 0, [], rfl, Dg.nil_ _ _, by simp⟩
  · simp at hcs
    obtain ⟨rfl, rfl, rfl⟩ := hcs
    have hlz : len ≤ zs.length := by rw [hz]; split <;> omega
    have hn : ∀ n ∈ zs, 0 ≤ n ∧ n ≤ 4294967295 := fun n hn => by simpa [Lit.wf, IntKind.min, IntKind.max, IntKind.signed, IntKind.bits] using hwz n hn
    have hxl : ((zs.take len).map Int.toNat).length = len := by simp; omega
    refine ⟨some a, cap, (zs.take len).map Int.toNat, by rw [hxl], ⟨by rw [hxl]; exact hl, ?_, fun h0 => ?_⟩, by rw [hxl]; unfold maxLen at hm; omega⟩
    · intro x hx
      obtain ⟨z, hz', rfl⟩ := List.mem_map.1 hx
      have := hn z (List.mem_of_mem_take hz')
      omega
    · rw [hxl] at h0
      obtain ⟨b, off, spot⟩ := a
      have hspot : spot = none := by simpa [Addr.add] using World.cell?_spot (hcell 0 (by omega))
      subst hspot
      refine ⟨b, off, rfl, below_cell_lt (v := .int .u32 (zs.getD 0 0)) (o := off) (by have := hcell 0 (by omega); simpa [Addr.add] using this), fun j hj => ?_⟩
      rw [hxl] at hj
      have hc := hcell j (by omega)
      rw [Addr.add_lit] at hc
      rw [hc]
      have hjz : j < zs.length := by omega
      have hb := hn zs[j] (List.getElem_mem hjz)
      simp [hj, List.getElem?_eq_getElem hjz]
      omega
/-- A number that came in. -/
theorem open_d {H : Type} {enc : TypeId × Value → H} {W : World} {base : Nat} {v : Value} {d : DataW H} {ps : List MemPlace}
    (hval : Value.okWide Tryz.prog W .any base 26 v) (hd : DataW.Trod enc Tryz.prog W 0 (fun _ => true) true 26 v d ps) :
    ∃ s A c xs e, v = .agg #[.bool s, .slice A xs.length c, .int .i64 e] ∧ Dg W A c xs ∧ xs.length ≤ 9223372036854775807 ∧ -9223372036854775808 ≤ e ∧ e ≤ 9223372036854775807 := by
  obtain ⟨cs, rfl, hsz⟩ := okWide_struct Tryz.underlying26 hval
  obtain ⟨v0, v1, v2, rfl⟩ := Go.Joins.array3 (hsz.trans (by kernel_rfl))
  obtain ⟨fuel, hf⟩ := hd
  obtain ⟨y0, y1, n, _, _, h0, h1⟩ := trod_struct2 Tryz.underlying26 hf
  have c0 : Tryz.prog.cellsOf 24 = 2 := by kernel_rfl
  have c1 : Tryz.prog.cellsOf 3 = 1 := by kernel_rfl
  have c2 : Tryz.prog.cellsOf 4 = 1 := by kernel_rfl
  have c3 : Tryz.prog.cellsOf 22 = 1 := by kernel_rfl
  simp only [Value.cells, c0, c1, List.drop_zero] at h0 h1
  obtain ⟨z0, z1, k, _, _, g0, g1⟩ := trod_struct2 Tryz.underlying24 h0
  simp only [c2, c3] at g0 g1
  obtain ⟨s, e0, _⟩ := DataW.trod_bool Tryz.underlying4 g0
  obtain rfl : v0 = .bool s := by simpa using e0
  obtain ⟨a0, len, cap, e1⟩ := Go.Joins.slice_form Tryz.underlying22 g1
  obtain rfl : v1 = .slice a0 len cap := by simpa using e1
  obtain ⟨e, e2, _, hw⟩ := DataW.trod_int Tryz.underlying3 h1
  obtain rfl : v2 = .int .i64 e := by simpa using e2
  obtain ⟨A, c, xs, ee, g, gl⟩ := open_dg0 ⟨k, g1⟩
  exact ⟨s, A, c, xs, e, by rw [ee], g, gl, i64_lo hw, i64_hi hw⟩
end Go.Proofs.YtijodbjdajddoaaGreatDoor
end
