import Derived.Test.YtdmfapgclppmhaaGreatDoorMB2
import Derived.Test.YtdmfapgclppmhaaGreatDoorMB1
import Derived.Test.YtdmfapgclppmhaaGreatDoorMB0
set_option maxHeartbeats 16000000
set_option maxRecDepth 100000
section
namespace Go.Proofs.YtdmfapgclppmhaaGreatDoor
open Go.RowKit
theorem beside_any {A B : Option Addr} {c d : Nat} {m n x y : Int} {w : World} (h : Dg w A c (digs m.natAbs)) (h' : Dg w B d (digs n.natAbs)) (hl : (digs m.natAbs).length ≤ 400000) (hl' : (digs n.natAbs).length ≤ 400000) (x0 : -131072 ≤ x) (x1 : x ≤ 131072) (y0 : -131072 ≤ y) (y1 : y ≤ 131072) {p q e0 : Int} (he : min x y = e0) (hp : upto m x e0 = p) (hq : upto n y e0 = q) :
    Calls Tryz.prog 79 #[.agg #[.bool (decide (m < 0)), .slice A (digs m.natAbs).length c, .int .i64 x], .agg #[.bool (decide (n < 0)), .slice B (digs n.natAbs).length d, .int .i64 y]] w fun e w' => Ybs p q e0 w e w' := by
  rcases Int.lt_trichotomy x y with hc | hc | hc
  · exact beside_lt A B c d m n x y w h h' hl hl' x0 x1 y0 y1 he hp hq hc
  · exact beside_eq A B c d m n x y w h h' hl hl' x0 x1 y0 y1 he hp hq hc
  · exact beside_gt A B c d m n x y w h h' hl hl' x0 x1 y0 y1 he hp hq hc
theorem cmp_b {A B : Option Addr} {c d x y : Nat} {q : Int} {w : World} (h : Dg w A c (digs x)) (h' : Dg w B d (digs y)) (hl : (digs x).length ≤ 1000000) (hl' : (digs y).length ≤ 1000000) (hq : cmpi x y = q) :
    Calls Tryz.prog 92 #[.slice A (digs x).length c, .slice B (digs y).length d] w fun e w' => e = .returned (.int .i64 q) ∧ Below w.heap.size w w' := by
  have := cmp_any A B c d (digs x) (digs y) w h h' (by omega) (by omega)
  rw [val_digs, val_digs, hq] at this
  exact this.mono fun e w' ⟨he, n, hw⟩ => ⟨he, by rw [hw]; exact below_drewN (Below.refl _ _) _⟩
theorem bits_b {A : Option Addr} {c x : Nat} {z : Int} {w : World} (h : Dg w A c (digs x)) (hl : (digs x).length ≤ 1000000) (hz : (blen x : Int) = z) :
    Calls Tryz.prog 89 #[.slice A (digs x).length c] w fun e w' => e = .returned (.int .i64 z) ∧ w = w' := by
  have := bits_any A c (digs x) w h (by omega)
  rw [val_digs, hz] at this; exact this
theorem bl_bd {m : Int} {k : Nat} (h : (digs m.natAbs).length ≤ k) : blen m.natAbs ≤ 32 * k := by
  refine blen_le ?_
  have := val_lt (ok_digs m.natAbs)
  rw [val_digs] at this
  refine Nat.lt_of_lt_of_le this ?_
  rw [show (4294967296 : Nat) = 2 ^ 32 from rfl, ← Nat.pow_mul]
  exact Nat.pow_le_pow_right (by omega) (by omega)
theorem len_bl (m : Int) : (digs m.natAbs).length ≤ bl m / 32 + 1 := by
  refine digs_len_lt ?_
  by_cases h : m.natAbs = 0
  · rw [h]; exact Nat.pow_pos (by omega)
  · have ⟨_, b, _⟩ := blen_bd m.natAbs h
    refine Nat.lt_of_lt_of_le b ?_
    rw [show (4294967296 : Nat) = 2 ^ 32 from rfl, ← Nat.pow_mul]
    refine Nat.pow_le_pow_right (by omega) ?_
    unfold bl; omega
def agq (m x n y : Int) : Int := if x + bl m < y + bl n then -1 else if y + bl n < x + bl m then 1 else cmpi (upto m x (min x y)).natAbs (upto n y (min x y)).natAbs
theorem agq_bd (m x n y : Int) : -1 ≤ agq m x n y ∧ agq m x n y ≤ 1 := by
  unfold agq
  have := cmpi_three (upto m x (min x y)).natAbs (upto n y (min x y)).natAbs
  split
  · omega
  · split <;> omega
theorem agq_pos {m x n y : Int} (hm : 0 < m) (hn : 0 < n) : agq m x n y = cmpd (dv m x) (dv n y) := by
  unfold agq
  split
  · rename_i h; rw [cmpd_lt (cmpd_size hm hn h)]
  · split
    · rename_i h; rw [cmpd_gt (cmpd_size hn hm h)]
    · have hx : min x y ≤ x := by omega
      have hy : min x y ≤ y := by omega
      generalize min x y = g at *
      rw [← dv_upto (m := m) hx, ← dv_upto (m := n) hy, cmpd_same]
      have e1 : 0 ≤ upto m x g := Int.mul_nonneg (by omega) (Int.le_of_lt (Int.pow_pos (by omega)))
      have e2 : 0 ≤ upto n y g := Int.mul_nonneg (by omega) (Int.le_of_lt (Int.pow_pos (by omega)))
      rcases cmpi_three (upto m x g).natAbs (upto n y g).natAbs with ⟨h, k⟩ | ⟨h, k⟩ | ⟨h, k⟩
      · rw [k, if_pos (by omega)]
      · rw [k, if_neg (by omega), if_neg (by omega)]
      · rw [k, if_neg (by omega), if_pos (by omega)]
theorem agq_abs (m x n y : Int) : agq m x n y = agq (m.natAbs : Int) x (n.natAbs : Int) y := by
  unfold agq bl
  rw [upto_abs, upto_abs, upto_abs, upto_abs]
  simp only [Int.natAbs_natCast]
theorem cmp_same {m x n y : Int} (h : Int.sign m = Int.sign n) (hx : Nf m x) (hy : Nf n y) : Int.sign m * agq m x n y = cmpd (dv m x) (dv n y) := by
  have e1 := sign_three m
  have e2 := sign_three n
  rcases e1 with ⟨a, b⟩ | ⟨a, b⟩ | ⟨a, b⟩
  · have hn : n < 0 := by omega
    rw [b, agq_abs, agq_pos (by omega) (by omega)]
    have f1 : dv (m.natAbs : Int) x = -dv m x := by rw [← dv_neg]; congr 1; omega
    have f2 : dv (n.natAbs : Int) y = -dv n y := by rw [← dv_neg]; congr 1; omega
    rw [f1, f2, cmpd_neg]; omega
  · have hn : n = 0 := by omega
    rw [b, Int.zero_mul, a, hn, dv_zero, dv_zero, cmpd_eq rfl]
  · rw [b, Int.one_mul, agq_pos a (by omega)]
theorem cmp_less {m x n y : Int} (h : Int.sign m < Int.sign n) : cmpd (dv m x) (dv n y) = -1 := by
  have e1 := sign_three m
  have e2 := sign_three n
  refine cmpd_lt ?_
  by_cases hm : m < 0
  · have h1 := dv_neg0 (e := x) |>.2 hm
    have h2 : 0 ≤ dv n y := dv_nonneg.2 (by omega)
    exact rlt_le h1 h2
  · have h1 : dv m x = 0 := dv_eq0.2 (by omega)
    rw [h1]; exact dv_pos.2 (by omega)
theorem cmp_more {m x n y : Int} (h : Int.sign n < Int.sign m) : cmpd (dv m x) (dv n y) = 1 := by
  have := cmp_less (m := n) (x := y) (n := m) (y := x) h
  rw [cmpd_swap, this]; rfl
theorem upto_len {m x e0 : Int} (hl : (digs m.natAbs).length ≤ 400000) (h : x - e0 ≤ 1000000) : (digs (upto m x e0).natAbs).length ≤ 1000000 := by
  have h1 := bl_bd hl
  have h2 := len_bl (upto m x e0)
  have h3 : bl (upto m x e0) ≤ 12800000 + 1000000 := by
    unfold bl
    by_cases h0 : m.natAbs = 0
    · rw [upto_abs, h0, Nat.zero_mul, blen_zero]; omega
    · rw [upto_abs, blen_up h0]; omega
  omega
theorem against_lt (A B : Option Addr) (c d : Nat) (m n x y : Int) (w : World) (h : Dg w A c (digs m.natAbs)) (h' : Dg w B d (digs n.natAbs)) (hl : (digs m.natAbs).length ≤ 400000) (hl' : (digs n.natAbs).length ≤ 400000) (x0 : -131072 ≤ x) (x1 : x ≤ 131072) (y0 : -131072 ≤ y) (y1 : y ≤ 131072) (hc : x + bl m < y + bl n):
    Calls Tryz.prog 58 #[.agg #[.bool (decide (m < 0)), .slice A (digs m.natAbs).length c, .int .i64 x], .agg #[.bool (decide (n < 0)), .slice B (digs n.natAbs).length d, .int .i64 y]] w fun e w' => e = .returned (.int .i64 (-1)) ∧ Below w.heap.size w w' := by
  have b1 := bl_bd hl
  have b2 := bl_bd hl'
  unfold bl at hc
  obtain ⟨z1, hz1⟩ : ∃ z : Int, (blen m.natAbs : Int) = z := ⟨_, rfl⟩
  obtain ⟨z2, hz2⟩ : ∃ z : Int, (blen n.natAbs : Int) = z := ⟨_, rfl⟩
  rw [hz1, hz2] at hc
  have k1 : 0 ≤ z1 ∧ z1 ≤ 13000000 := by omega
  have k2 : 0 ≤ z2 ∧ z2 ≤ 13000000 := by omega
  obtain ⟨k10, k11⟩ := k1
  obtain ⟨k20, k21⟩ := k2
  have lx := qH hl
  have ly := qH hl'
  have HZ1 := qH hz1
  have HZ2 := qH hz2
  obtain ⟨s1, hs1⟩ : ∃ s : Int, x + z1 = s := ⟨_, rfl⟩
  obtain ⟨s2, hs2⟩ : ∃ s : Int, y + z2 = s := ⟨_, rfl⟩
  rw [hs1, hs2] at hc
  have ws1 : IntKind.i64.wrap (x + z1) = s1 := by rw [IntWalk.i64_in _ (by omega)]; exact hs1
  have ws2 : IntKind.i64.wrap (y + z2) = s2 := by rw [IntWalk.i64_in _ (by omega)]; exact hs2
  have d1 : decide (s1 < s2) = true := by simp; omega
  have L0 := qH (((live_start w).add h).add h')
  clear hl hl' hz1 hz2 hc hs1 hs2 b1 b2 h h'
  go_enter Tryz.func58, Tryz.ntmps58
  go_wp2_with fail
  obtain ⟨v1, hW, hb, Rx_1, Ry_1⟩ := new2 w (.cells #[.bool (decide (m < 0)), .slice A (digs m.natAbs).length c, .int .i64 x] 26) (.cells #[.bool (decide (n < 0)), .slice B (digs n.natAbs).length d, .int .i64 y] 26)
  rw [← hW]
  have L1 := ls L0 hb
  have Gx := gl0 L0.out
  have Gy := gl1 L0.out
  have Nxy : w.heap.size < w.heap.size + 1 := by omega
  clear hW hb
  obtain ⟨fx0, zx0, fx1, zx1, fx2, zx2, xx⟩ := ly3 Rx_1.out
  obtain ⟨fy0, zy0, fy1, zy1, fy2, zy2, xy⟩ := ly3 Ry_1.out
  have KD := qH (bd0 v1)
  have LD := ls L1 KD.out
  go_region_held3 (fun w' => ∀ b o, b < v1.heap.size → w'.cell? ⟨b, o, none⟩ = v1.cell? ⟨b, o, none⟩)
    (first | with_reducible exact (bcell KD.out).1)
    (first
      | (go_at_call_of 89 A; (with_reducible refine (bits_b (LD.out.get (A := A) (c := c) (xs := digs m.natAbs) (by simp)) (Nat.le_trans lx.out (by omega)) HZ1.out).mono ?_); rintro e w3 ⟨rfl, rfl⟩)
      | (go_at_call_of 89 B; (with_reducible refine (bits_b (LD.out.get (A := B) (c := d) (xs := digs n.natAbs) (by simp)) (Nat.le_trans ly.out (by omega)) HZ2.out).mono ?_); rintro e w4 ⟨rfl, rfl⟩))
  rename_i hHeld
  clear hHeld
  clear fx0 zx0 fx1 zx1 fx2 zx2 xx fy0 zy0 fy1 zy1 fy2 zy2 xy
  clear KD LD
  obtain ⟨w5, hW⟩ : ∃ W : World, W = v1.drew := ⟨_, rfl⟩
  rw [← hW]
  have hb : Below v1.heap.size v1 w5 := by rw [hW]; exact bd0 _
  have L5 := ls L1 hb
  have Rx_5 := co Rx_1 hb
  have Ry_5 := co Ry_1 hb
  clear hW hb
  clear ws1 ws2
  go_wp2
  go_ret
  exact ⟨rfl, L5.out.1⟩
theorem against_gt (A B : Option Addr) (c d : Nat) (m n x y : Int) (w : World) (h : Dg w A c (digs m.natAbs)) (h' : Dg w B d (digs n.natAbs)) (hl : (digs m.natAbs).length ≤ 400000) (hl' : (digs n.natAbs).length ≤ 400000) (x0 : -131072 ≤ x) (x1 : x ≤ 131072) (y0 : -131072 ≤ y) (y1 : y ≤ 131072) (hc : y + bl n < x + bl m):
    Calls Tryz.prog 58 #[.agg #[.bool (decide (m < 0)), .slice A (digs m.natAbs).length c, .int .i64 x], .agg #[.bool (decide (n < 0)), .slice B (digs n.natAbs).length d, .int .i64 y]] w fun e w' => e = .returned (.int .i64 1) ∧ Below w.heap.size w w' := by
  have b1 := bl_bd hl
  have b2 := bl_bd hl'
  unfold bl at hc
  obtain ⟨z1, hz1⟩ : ∃ z : Int, (blen m.natAbs : Int) = z := ⟨_, rfl⟩
  obtain ⟨z2, hz2⟩ : ∃ z : Int, (blen n.natAbs : Int) = z := ⟨_, rfl⟩
  rw [hz1, hz2] at hc
  have k1 : 0 ≤ z1 ∧ z1 ≤ 13000000 := by omega
  have k2 : 0 ≤ z2 ∧ z2 ≤ 13000000 := by omega
  obtain ⟨k10, k11⟩ := k1
  obtain ⟨k20, k21⟩ := k2
  have lx := qH hl
  have ly := qH hl'
  have HZ1 := qH hz1
  have HZ2 := qH hz2
  obtain ⟨s1, hs1⟩ : ∃ s : Int, x + z1 = s := ⟨_, rfl⟩
  obtain ⟨s2, hs2⟩ : ∃ s : Int, y + z2 = s := ⟨_, rfl⟩
  rw [hs1, hs2] at hc
  have ws1 : IntKind.i64.wrap (x + z1) = s1 := by rw [IntWalk.i64_in _ (by omega)]; exact hs1
  have ws2 : IntKind.i64.wrap (y + z2) = s2 := by rw [IntWalk.i64_in _ (by omega)]; exact hs2
  have d1 : decide (s1 < s2) = false := by simp; omega
  have d2 : decide (s2 < s1) = true := by simp; omega
  have L0 := qH (((live_start w).add h).add h')
  clear hl hl' hz1 hz2 hc hs1 hs2 b1 b2 h h'
  go_enter Tryz.func58, Tryz.ntmps58
  go_wp2_with fail
  obtain ⟨v1, hW, hb, Rx_1, Ry_1⟩ := new2 w (.cells #[.bool (decide (m < 0)), .slice A (digs m.natAbs).length c, .int .i64 x] 26) (.cells #[.bool (decide (n < 0)), .slice B (digs n.natAbs).length d, .int .i64 y] 26)
  rw [← hW]
  have L1 := ls L0 hb
  have Gx := gl0 L0.out
  have Gy := gl1 L0.out
  have Nxy : w.heap.size < w.heap.size + 1 := by omega
  clear hW hb
  obtain ⟨fx0, zx0, fx1, zx1, fx2, zx2, xx⟩ := ly3 Rx_1.out
  obtain ⟨fy0, zy0, fy1, zy1, fy2, zy2, xy⟩ := ly3 Ry_1.out
  have KD := qH (bd0 v1)
  have LD := ls L1 KD.out
  go_region_held3 (fun w' => ∀ b o, b < v1.heap.size → w'.cell? ⟨b, o, none⟩ = v1.cell? ⟨b, o, none⟩)
    (first | with_reducible exact (bcell KD.out).1)
    (first
      | (go_at_call_of 89 A; (with_reducible refine (bits_b (LD.out.get (A := A) (c := c) (xs := digs m.natAbs) (by simp)) (Nat.le_trans lx.out (by omega)) HZ1.out).mono ?_); rintro e w3 ⟨rfl, rfl⟩)
      | (go_at_call_of 89 B; (with_reducible refine (bits_b (LD.out.get (A := B) (c := d) (xs := digs n.natAbs) (by simp)) (Nat.le_trans ly.out (by omega)) HZ2.out).mono ?_); rintro e w4 ⟨rfl, rfl⟩))
  rename_i hHeld
  clear hHeld
  clear fx0 zx0 fx1 zx1 fx2 zx2 xx fy0 zy0 fy1 zy1 fy2 zy2 xy
  clear KD LD
  obtain ⟨w5, hW⟩ : ∃ W : World, W = v1.drew := ⟨_, rfl⟩
  rw [← hW]
  have hb : Below v1.heap.size v1 w5 := by rw [hW]; exact bd0 _
  have L5 := ls L1 hb
  have Rx_5 := co Rx_1 hb
  have Ry_5 := co Ry_1 hb
  clear hW hb
  clear ws1 ws2
  go_wp2
  go_ret
  exact ⟨rfl, L5.out.1⟩
theorem against_eq (A B : Option Addr) (c d : Nat) (m n x y : Int) (w : World) (h : Dg w A c (digs m.natAbs)) (h' : Dg w B d (digs n.natAbs)) (hl : (digs m.natAbs).length ≤ 400000) (hl' : (digs n.natAbs).length ≤ 400000) (x0 : -131072 ≤ x) (x1 : x ≤ 131072) (y0 : -131072 ≤ y) (y1 : y ≤ 131072) (hc : x + bl m = y + bl n) {k : Int} (hk : cmpi (upto m x (min x y)).natAbs (upto n y (min x y)).natAbs = k):
    Calls Tryz.prog 58 #[.agg #[.bool (decide (m < 0)), .slice A (digs m.natAbs).length c, .int .i64 x], .agg #[.bool (decide (n < 0)), .slice B (digs n.natAbs).length d, .int .i64 y]] w fun e w' => e = .returned (.int .i64 k) ∧ Below w.heap.size w w' := by
  have b1 := bl_bd hl
  have b2 := bl_bd hl'
  unfold bl at hc
  obtain ⟨z1, hz1⟩ : ∃ z : Int, (blen m.natAbs : Int) = z := ⟨_, rfl⟩
  obtain ⟨z2, hz2⟩ : ∃ z : Int, (blen n.natAbs : Int) = z := ⟨_, rfl⟩
  rw [hz1, hz2] at hc
  have k1 : 0 ≤ z1 ∧ z1 ≤ 13000000 := by omega
  have k2 : 0 ≤ z2 ∧ z2 ≤ 13000000 := by omega
  obtain ⟨k10, k11⟩ := k1
  obtain ⟨k20, k21⟩ := k2
  have lx := qH hl
  have ly := qH hl'
  have HZ1 := qH hz1
  have HZ2 := qH hz2
  obtain ⟨s1, hs1⟩ : ∃ s : Int, x + z1 = s := ⟨_, rfl⟩
  obtain ⟨s2, hs2⟩ : ∃ s : Int, y + z2 = s := ⟨_, rfl⟩
  rw [hs1, hs2] at hc
  have ws1 : IntKind.i64.wrap (x + z1) = s1 := by rw [IntWalk.i64_in _ (by omega)]; exact hs1
  have ws2 : IntKind.i64.wrap (y + z2) = s2 := by rw [IntWalk.i64_in _ (by omega)]; exact hs2
  have d1 : decide (s1 < s2) = false := by simp; omega
  have d2 : decide (s2 < s1) = false := by simp; omega
  obtain ⟨e0, he0⟩ : ∃ e, min x y = e := ⟨_, rfl⟩
  rw [he0] at hk
  obtain ⟨p, hp⟩ : ∃ e, upto m x e0 = e := ⟨_, rfl⟩
  obtain ⟨q, hq⟩ : ∃ e, upto n y e0 = e := ⟨_, rfl⟩
  rw [hp, hq] at hk
  have HK := qH hk
  have HP := qH hp
  have HQ := qH hq
  have HE := qH he0
  have lp := qH (show (digs p.natAbs).length ≤ 1000000 by rw [← hp]; exact upto_len hl (by omega))
  have lq := qH (show (digs q.natAbs).length ≤ 1000000 by rw [← hq]; exact upto_len hl' (by omega))
  have L0 := qH (((live_start w).add h).add h')
  clear hl hl' hz1 hz2 hc hs1 hs2 b1 b2 h h' hk hp hq he0
  go_enter Tryz.func58, Tryz.ntmps58
  go_wp2_with fail
  obtain ⟨v1, hW, hb, Rx_1, Ry_1⟩ := new2 w (.cells #[.bool (decide (m < 0)), .slice A (digs m.natAbs).length c, .int .i64 x] 26) (.cells #[.bool (decide (n < 0)), .slice B (digs n.natAbs).length d, .int .i64 y] 26)
  rw [← hW]
  have L1 := ls L0 hb
  have Gx := gl0 L0.out
  have Gy := gl1 L0.out
  have Nxy : w.heap.size < w.heap.size + 1 := by omega
  clear hW hb
  obtain ⟨fx0, zx0, fx1, zx1, fx2, zx2, xx⟩ := ly3 Rx_1.out
  obtain ⟨fy0, zy0, fy1, zy1, fy2, zy2, xy⟩ := ly3 Ry_1.out
  have KD := qH (bd0 v1)
  have LD := ls L1 KD.out
  go_region_held3 (fun w' => ∀ b o, b < v1.heap.size → w'.cell? ⟨b, o, none⟩ = v1.cell? ⟨b, o, none⟩)
    (first | with_reducible exact (bcell KD.out).1)
    (first
      | (go_at_call_of 89 A; (with_reducible refine (bits_b (LD.out.get (A := A) (c := c) (xs := digs m.natAbs) (by simp)) (Nat.le_trans lx.out (by omega)) HZ1.out).mono ?_); rintro e w3 ⟨rfl, rfl⟩)
      | (go_at_call_of 89 B; (with_reducible refine (bits_b (LD.out.get (A := B) (c := d) (xs := digs n.natAbs) (by simp)) (Nat.le_trans ly.out (by omega)) HZ2.out).mono ?_); rintro e w4 ⟨rfl, rfl⟩))
  rename_i hHeld
  clear hHeld
  clear fx0 zx0 fx1 zx1 fx2 zx2 xx fy0 zy0 fy1 zy1 fy2 zy2 xy
  clear KD LD
  obtain ⟨w5, hW⟩ : ∃ W : World, W = v1.drew := ⟨_, rfl⟩
  rw [← hW]
  have hb : Below v1.heap.size v1 w5 := by rw [hW]; exact bd0 _
  have L5 := ls L1 hb
  have Rx_5 := co Rx_1 hb
  have Ry_5 := co Ry_1 hb
  clear hW hb
  clear ws1 ws2
  obtain ⟨fx0, zx0, fx1, zx1, fx2, zx2, xx⟩ := ly3 Rx_5.out
  obtain ⟨fy0, zy0, fy1, zy1, fy2, zy2, xy⟩ := ly3 Ry_5.out
  go_wp2_with fail
  refine (beside_any (p := p) (q := q) (e0 := e0) (L5.out.get (A := A) (c := c) (xs := digs m.natAbs) (by simp)) (L5.out.get (A := B) (c := d) (xs := digs n.natAbs) (by simp)) lx.out ly.out x0 x1 y0 y1 HE.out HP.out HQ.out).mono ?_
  rintro e w6 ⟨A6, c6, B6, d6, rfl, hd, hd', hb⟩
  have L6 := qH (((L5.out.step hb).add hd).add hd')
  clear fx0 zx0 fx1 zx1 fx2 zx2 xx fy0 zy0 fy1 zy1 fy2 zy2 xy
  have Rx_6 := co Rx_5 hb
  have Ry_6 := co Ry_5 hb
  clear hb hd hd'
  go_wp2_with fail
  obtain ⟨w7, hW, hb, Ra_7, Rb_7⟩ := new2 w6 (.cells #[.bool (decide (p < 0)), .slice A6 (digs p.natAbs).length c6] 24) (.cells #[.bool (decide (q < 0)), .slice B6 (digs q.natAbs).length d6] 24)
  rw [← hW]
  have L7 := ls L6 hb
  have Rx_7 := co Rx_6 hb
  have Ry_7 := co Ry_6 hb
  have Ga := gl0 L6.out
  have Nxa := nl0 Rx_6.out
  have Nya := nl0 Ry_6.out
  have Gb := gl1 L6.out
  have Nxb := nl1 Rx_6.out
  have Nyb := nl1 Ry_6.out
  have Nab : w6.heap.size < w6.heap.size + 1 := by omega
  clear hW hb
  refine (cmp_b (L7.out.get (A := A6) (c := c6) (xs := digs p.natAbs) (by simp)) (L7.out.get (A := B6) (c := d6) (xs := digs q.natAbs) (by simp)) lp.out lq.out HK.out).mono ?_
  rintro e w8 ⟨rfl, hb⟩
  have L8 := ls L7 hb
  have Rx_8 := co Rx_7 hb
  have Ry_8 := co Ry_7 hb
  have Ra_8 := co Ra_7 hb
  have Rb_8 := co Rb_7 hb
  clear hb 
  go_wp2
  go_ret
  exact ⟨rfl, L8.out.1⟩
theorem dagainst_any {A B : Option Addr} {c d : Nat} {m n x y k : Int} {w : World} (h : Dg w A c (digs m.natAbs)) (h' : Dg w B d (digs n.natAbs)) (hl : (digs m.natAbs).length ≤ 400000) (hl' : (digs n.natAbs).length ≤ 400000) (x0 : -131072 ≤ x) (x1 : x ≤ 131072) (y0 : -131072 ≤ y) (y1 : y ≤ 131072) (hk : agq m x n y = k) :
    Calls Tryz.prog 58 #[.agg #[.bool (decide (m < 0)), .slice A (digs m.natAbs).length c, .int .i64 x], .agg #[.bool (decide (n < 0)), .slice B (digs n.natAbs).length d, .int .i64 y]] w fun e w' => e = .returned (.int .i64 k) ∧ Below w.heap.size w w' := by
  unfold agq at hk
  by_cases h1 : x + bl m < y + bl n
  · rw [if_pos h1] at hk; subst hk; exact against_lt A B c d m n x y w h h' hl hl' x0 x1 y0 y1 h1
  · rw [if_neg h1] at hk
    by_cases h2 : y + bl n < x + bl m
    · rw [if_pos h2] at hk; subst hk; exact against_gt A B c d m n x y w h h' hl hl' x0 x1 y0 y1 h2
    · rw [if_neg h2] at hk; exact against_eq A B c d m n x y w h h' hl hl' x0 x1 y0 y1 (by omega) hk
theorem sign_dz {A : Option Addr} {c : Nat} {m x q : Int} {w : World} (hq : Int.sign m = q) :
    Calls Tryz.prog 57 #[.agg #[.bool (decide (m < 0)), .slice A (digs m.natAbs).length c, .int .i64 x]] w fun e w' => e = .returned (.int .i64 q) ∧ Below w.heap.size w w' := by
  have h3 := sign_three m
  refine sign_d A _ c _ x q w (fun h => ?_) (fun h => ?_)
  · have := digs_nil.1 h; omega
  · have : m.natAbs ≠ 0 := fun e => h (digs_nil.2 e)
    by_cases hm : m < 0
    · rw [if_pos (by simpa using hm)]; omega
    · rw [if_neg (by simpa using hm)]; omega
theorem cmp_lt_ (A B : Option Addr) (c d : Nat) (m n x y : Int) (w : World) (h : Dg w A c (digs m.natAbs)) (h' : Dg w B d (digs n.natAbs)) (hl : (digs m.natAbs).length ≤ 400000) (hl' : (digs n.natAbs).length ≤ 400000) (r1 : Rt m x) (r2 : Rt n y) {q : Int} (hq : cmpd (dv m x) (dv n y) = q) (hc : Int.sign m < Int.sign n):
    Calls Tryz.prog 29 #[.agg #[.bool (decide (m < 0)), .slice A (digs m.natAbs).length c, .int .i64 x], .agg #[.bool (decide (n < 0)), .slice B (digs n.natAbs).length d, .int .i64 y]] w fun e w' => e = .returned (.int .i64 q) ∧ Below w.heap.size w w' := by
  have x0 := r1.2.1
  have x1 := r1.2.2
  have y0 := r2.2.1
  have y1 := r2.2.2
  have DX := qH (fun W hW => dright_any A c (decide (m < 0)) (digs m.natAbs) x W hW true (dyR_num r1) (by omega))
  have DY := qH (fun W hW => dright_any B d (decide (n < 0)) (digs n.natAbs) y W hW true (dyR_num r2) (by omega))
  have lx := qH hl
  have ly := qH hl'
  obtain rfl : q = -1 := by rw [← hq]; exact cmp_less hc
  have b1 := sign_bd m
  have b2 := sign_bd n
  obtain ⟨s1, hs1⟩ : ∃ s, Int.sign m = s := ⟨_, rfl⟩
  obtain ⟨s2, hs2⟩ : ∃ s, Int.sign n = s := ⟨_, rfl⟩
  rw [hs1, hs2] at hc
  rw [hs1] at b1
  rw [hs2] at b2
  obtain ⟨b10, b11⟩ := b1
  obtain ⟨b20, b21⟩ := b2
  have S1 := qH hs1
  have S2 := qH hs2
  have d1 : (s1 != s2) = true := by simp; omega
  have d1' : (s1 == s2) = false := by simp; omega
  have d2 : decide (s1 < s2) = true := by simp; omega
  have L0 := qH (((live_start w).add h).add h')
  clear hl hl' hc hs1 hs2 h h' r1 r2 hq
  go_enter Tryz.func29, Tryz.ntmps29
  go_wp2_with fail
  obtain ⟨v1, hW, hb, Rx_1, Ry_1⟩ := new2 w (.cells #[.bool (decide (m < 0)), .slice A (digs m.natAbs).length c, .int .i64 x] 26) (.cells #[.bool (decide (n < 0)), .slice B (digs n.natAbs).length d, .int .i64 y] 26)
  rw [← hW]
  have L1 := ls L0 hb
  have Gx := gl0 L0.out
  have Gy := gl1 L0.out
  have Nxy : w.heap.size < w.heap.size + 1 := by omega
  clear hW hb
  refine (DX.out _ (L1.out.get (A := A) (c := c) (xs := digs m.natAbs) (by simp))).mono ?_
  rintro e w2 ⟨rfl, hb⟩
  have L2 := ls L1 hb
  have Rx_2 := co Rx_1 hb
  have Ry_2 := co Ry_1 hb
  clear hb 
  obtain ⟨fx0, zx0, fx1, zx1, fx2, zx2, xx⟩ := ly3 Rx_2.out
  obtain ⟨fy0, zy0, fy1, zy1, fy2, zy2, xy⟩ := ly3 Ry_2.out
  go_wp2_with fail
  refine (DY.out _ (L2.out.get (A := B) (c := d) (xs := digs n.natAbs) (by simp))).mono ?_
  rintro e w3 ⟨rfl, hb⟩
  have L3 := ls L2 hb
  clear fx0 zx0 fx1 zx1 fx2 zx2 xx fy0 zy0 fy1 zy1 fy2 zy2 xy
  have Rx_3 := co Rx_2 hb
  have Ry_3 := co Ry_2 hb
  clear hb 
  obtain ⟨fx0, zx0, fx1, zx1, fx2, zx2, xx⟩ := ly3 Rx_3.out
  obtain ⟨fy0, zy0, fy1, zy1, fy2, zy2, xy⟩ := ly3 Ry_3.out
  go_wp2_with fail
  refine (sign_dz (x := x) S1.out).mono ?_
  rintro e w4 ⟨rfl, hb⟩
  have L4 := ls L3 hb
  clear fx0 zx0 fx1 zx1 fx2 zx2 xx fy0 zy0 fy1 zy1 fy2 zy2 xy
  have Rx_4 := co Rx_3 hb
  have Ry_4 := co Ry_3 hb
  clear hb 
  obtain ⟨fx0, zx0, fx1, zx1, fx2, zx2, xx⟩ := ly3 Rx_4.out
  obtain ⟨fy0, zy0, fy1, zy1, fy2, zy2, xy⟩ := ly3 Ry_4.out
  go_wp2_with fail
  refine (sign_dz (x := y) S2.out).mono ?_
  rintro e w5 ⟨rfl, hb⟩
  have L5 := ls L4 hb
  clear fx0 zx0 fx1 zx1 fx2 zx2 xx fy0 zy0 fy1 zy1 fy2 zy2 xy
  have Rx_5 := co Rx_4 hb
  have Ry_5 := co Ry_4 hb
  clear hb 
  obtain ⟨fx0, zx0, fx1, zx1, fx2, zx2, xx⟩ := ly3 Rx_5.out
  obtain ⟨fy0, zy0, fy1, zy1, fy2, zy2, xy⟩ := ly3 Ry_5.out
  go_wp2_with fail
  refine (sign_dz (x := y) S2.out).mono ?_
  rintro e w6 ⟨rfl, hb⟩
  have L6 := ls L5 hb
  clear fx0 zx0 fx1 zx1 fx2 zx2 xx fy0 zy0 fy1 zy1 fy2 zy2 xy
  have Rx_6 := co Rx_5 hb
  have Ry_6 := co Ry_5 hb
  clear hb 
  go_wp2
  go_ret
  exact ⟨rfl, L6.out.1⟩
theorem cmp_eq_ (A B : Option Addr) (c d : Nat) (m n x y : Int) (w : World) (h : Dg w A c (digs m.natAbs)) (h' : Dg w B d (digs n.natAbs)) (hl : (digs m.natAbs).length ≤ 400000) (hl' : (digs n.natAbs).length ≤ 400000) (r1 : Rt m x) (r2 : Rt n y) {q : Int} (hq : cmpd (dv m x) (dv n y) = q) (hc : Int.sign m = Int.sign n):
    Calls Tryz.prog 29 #[.agg #[.bool (decide (m < 0)), .slice A (digs m.natAbs).length c, .int .i64 x], .agg #[.bool (decide (n < 0)), .slice B (digs n.natAbs).length d, .int .i64 y]] w fun e w' => e = .returned (.int .i64 q) ∧ Below w.heap.size w w' := by
  have x0 := r1.2.1
  have x1 := r1.2.2
  have y0 := r2.2.1
  have y1 := r2.2.2
  have DX := qH (fun W hW => dright_any A c (decide (m < 0)) (digs m.natAbs) x W hW true (dyR_num r1) (by omega))
  have DY := qH (fun W hW => dright_any B d (decide (n < 0)) (digs n.natAbs) y W hW true (dyR_num r2) (by omega))
  have lx := qH hl
  have ly := qH hl'
  have HQ := qH (show Int.sign m * agq m x n y = q by rw [← hq]; exact cmp_same hc r1.1 r2.1)
  have b1 := sign_bd m
  have b2 := sign_bd n
  obtain ⟨s1, hs1⟩ : ∃ s, Int.sign m = s := ⟨_, rfl⟩
  obtain ⟨s2, hs2⟩ : ∃ s, Int.sign n = s := ⟨_, rfl⟩
  rw [hs1, hs2] at hc
  rw [hs1] at b1
  rw [hs2] at b2
  obtain ⟨b10, b11⟩ := b1
  obtain ⟨b20, b21⟩ := b2
  have S1 := qH hs1
  have S2 := qH hs2
  have d1 : (s1 != s2) = false := by simp; omega
  have d1' : (s1 == s2) = true := by simp; omega
  rw [hs1] at HQ
  have a1 := agq_bd m x n y
  obtain ⟨k, hk⟩ : ∃ k, agq m x n y = k := ⟨_, rfl⟩
  rw [hk] at a1 HQ
  obtain ⟨a10, a11⟩ := a1
  have HK := qH hk
  have w1 : -1 ≤ s1 * k ∧ s1 * k ≤ 1 := by
    have : s1 = -1 ∨ s1 = 0 ∨ s1 = 1 := by omega
    rcases this with e | e | e <;> rw [e] <;> omega
  obtain ⟨w10, w11⟩ := w1
  have L0 := qH (((live_start w).add h).add h')
  clear hl hl' hc hs1 hs2 h h' r1 r2 hq hk
  go_enter Tryz.func29, Tryz.ntmps29
  go_wp2_with fail
  obtain ⟨v1, hW, hb, Rx_1, Ry_1⟩ := new2 w (.cells #[.bool (decide (m < 0)), .slice A (digs m.natAbs).length c, .int .i64 x] 26) (.cells #[.bool (decide (n < 0)), .slice B (digs n.natAbs).length d, .int .i64 y] 26)
  rw [← hW]
  have L1 := ls L0 hb
  have Gx := gl0 L0.out
  have Gy := gl1 L0.out
  have Nxy : w.heap.size < w.heap.size + 1 := by omega
  clear hW hb
  refine (DX.out _ (L1.out.get (A := A) (c := c) (xs := digs m.natAbs) (by simp))).mono ?_
  rintro e w2 ⟨rfl, hb⟩
  have L2 := ls L1 hb
  have Rx_2 := co Rx_1 hb
  have Ry_2 := co Ry_1 hb
  clear hb 
  obtain ⟨fx0, zx0, fx1, zx1, fx2, zx2, xx⟩ := ly3 Rx_2.out
  obtain ⟨fy0, zy0, fy1, zy1, fy2, zy2, xy⟩ := ly3 Ry_2.out
  go_wp2_with fail
  refine (DY.out _ (L2.out.get (A := B) (c := d) (xs := digs n.natAbs) (by simp))).mono ?_
  rintro e w3 ⟨rfl, hb⟩
  have L3 := ls L2 hb
  clear fx0 zx0 fx1 zx1 fx2 zx2 xx fy0 zy0 fy1 zy1 fy2 zy2 xy
  have Rx_3 := co Rx_2 hb
  have Ry_3 := co Ry_2 hb
  clear hb 
  obtain ⟨fx0, zx0, fx1, zx1, fx2, zx2, xx⟩ := ly3 Rx_3.out
  obtain ⟨fy0, zy0, fy1, zy1, fy2, zy2, xy⟩ := ly3 Ry_3.out
  go_wp2_with fail
  refine (sign_dz (x := x) S1.out).mono ?_
  rintro e w4 ⟨rfl, hb⟩
  have L4 := ls L3 hb
  clear fx0 zx0 fx1 zx1 fx2 zx2 xx fy0 zy0 fy1 zy1 fy2 zy2 xy
  have Rx_4 := co Rx_3 hb
  have Ry_4 := co Ry_3 hb
  clear hb 
  obtain ⟨fx0, zx0, fx1, zx1, fx2, zx2, xx⟩ := ly3 Rx_4.out
  obtain ⟨fy0, zy0, fy1, zy1, fy2, zy2, xy⟩ := ly3 Ry_4.out
  go_wp2_with fail
  refine (sign_dz (x := y) S2.out).mono ?_
  rintro e w5 ⟨rfl, hb⟩
  have L5 := ls L4 hb
  clear fx0 zx0 fx1 zx1 fx2 zx2 xx fy0 zy0 fy1 zy1 fy2 zy2 xy
  have Rx_5 := co Rx_4 hb
  have Ry_5 := co Ry_4 hb
  clear hb 
  obtain ⟨fx0, zx0, fx1, zx1, fx2, zx2, xx⟩ := ly3 Rx_5.out
  obtain ⟨fy0, zy0, fy1, zy1, fy2, zy2, xy⟩ := ly3 Ry_5.out
  go_wp2_with fail
  refine (dagainst_any (k := k) (L5.out.get (A := A) (c := c) (xs := digs m.natAbs) (by simp)) (L5.out.get (A := B) (c := d) (xs := digs n.natAbs) (by simp)) lx.out ly.out x0 x1 y0 y1 HK.out).mono ?_
  rintro e w6 ⟨rfl, hb⟩
  have L6 := ls L5 hb
  clear fx0 zx0 fx1 zx1 fx2 zx2 xx fy0 zy0 fy1 zy1 fy2 zy2 xy
  have Rx_6 := co Rx_5 hb
  have Ry_6 := co Ry_5 hb
  clear hb 
  go_wp2
  go_ret
  exact ⟨ret_i HQ.out, L6.out.1⟩
theorem cmp_gt_ (A B : Option Addr) (c d : Nat) (m n x y : Int) (w : World) (h : Dg w A c (digs m.natAbs)) (h' : Dg w B d (digs n.natAbs)) (hl : (digs m.natAbs).length ≤ 400000) (hl' : (digs n.natAbs).length ≤ 400000) (r1 : Rt m x) (r2 : Rt n y) {q : Int} (hq : cmpd (dv m x) (dv n y) = q) (hc : Int.sign n < Int.sign m):
    Calls Tryz.prog 29 #[.agg #[.bool (decide (m < 0)), .slice A (digs m.natAbs).length c, .int .i64 x], .agg #[.bool (decide (n < 0)), .slice B (digs n.natAbs).length d, .int .i64 y]] w fun e w' => e = .returned (.int .i64 q) ∧ Below w.heap.size w w' := by
  have x0 := r1.2.1
  have x1 := r1.2.2
  have y0 := r2.2.1
  have y1 := r2.2.2
  have DX := qH (fun W hW => dright_any A c (decide (m < 0)) (digs m.natAbs) x W hW true (dyR_num r1) (by omega))
  have DY := qH (fun W hW => dright_any B d (decide (n < 0)) (digs n.natAbs) y W hW true (dyR_num r2) (by omega))
  have lx := qH hl
  have ly := qH hl'
  obtain rfl : q = 1 := by rw [← hq]; exact cmp_more hc
  have b1 := sign_bd m
  have b2 := sign_bd n
  obtain ⟨s1, hs1⟩ : ∃ s, Int.sign m = s := ⟨_, rfl⟩
  obtain ⟨s2, hs2⟩ : ∃ s, Int.sign n = s := ⟨_, rfl⟩
  rw [hs1, hs2] at hc
  rw [hs1] at b1
  rw [hs2] at b2
  obtain ⟨b10, b11⟩ := b1
  obtain ⟨b20, b21⟩ := b2
  have S1 := qH hs1
  have S2 := qH hs2
  have d1 : (s1 != s2) = true := by simp; omega
  have d1' : (s1 == s2) = false := by simp; omega
  have d2 : decide (s1 < s2) = false := by simp; omega
  have L0 := qH (((live_start w).add h).add h')
  clear hl hl' hc hs1 hs2 h h' r1 r2 hq
  go_enter Tryz.func29, Tryz.ntmps29
  go_wp2_with fail
  obtain ⟨v1, hW, hb, Rx_1, Ry_1⟩ := new2 w (.cells #[.bool (decide (m < 0)), .slice A (digs m.natAbs).length c, .int .i64 x] 26) (.cells #[.bool (decide (n < 0)), .slice B (digs n.natAbs).length d, .int .i64 y] 26)
  rw [← hW]
  have L1 := ls L0 hb
  have Gx := gl0 L0.out
  have Gy := gl1 L0.out
  have Nxy : w.heap.size < w.heap.size + 1 := by omega
  clear hW hb
  refine (DX.out _ (L1.out.get (A := A) (c := c) (xs := digs m.natAbs) (by simp))).mono ?_
  rintro e w2 ⟨rfl, hb⟩
  have L2 := ls L1 hb
  have Rx_2 := co Rx_1 hb
  have Ry_2 := co Ry_1 hb
  clear hb 
  obtain ⟨fx0, zx0, fx1, zx1, fx2, zx2, xx⟩ := ly3 Rx_2.out
  obtain ⟨fy0, zy0, fy1, zy1, fy2, zy2, xy⟩ := ly3 Ry_2.out
  go_wp2_with fail
  refine (DY.out _ (L2.out.get (A := B) (c := d) (xs := digs n.natAbs) (by simp))).mono ?_
  rintro e w3 ⟨rfl, hb⟩
  have L3 := ls L2 hb
  clear fx0 zx0 fx1 zx1 fx2 zx2 xx fy0 zy0 fy1 zy1 fy2 zy2 xy
  have Rx_3 := co Rx_2 hb
  have Ry_3 := co Ry_2 hb
  clear hb 
  obtain ⟨fx0, zx0, fx1, zx1, fx2, zx2, xx⟩ := ly3 Rx_3.out
  obtain ⟨fy0, zy0, fy1, zy1, fy2, zy2, xy⟩ := ly3 Ry_3.out
  go_wp2_with fail
  refine (sign_dz (x := x) S1.out).mono ?_
  rintro e w4 ⟨rfl, hb⟩
  have L4 := ls L3 hb
  clear fx0 zx0 fx1 zx1 fx2 zx2 xx fy0 zy0 fy1 zy1 fy2 zy2 xy
  have Rx_4 := co Rx_3 hb
  have Ry_4 := co Ry_3 hb
  clear hb 
  obtain ⟨fx0, zx0, fx1, zx1, fx2, zx2, xx⟩ := ly3 Rx_4.out
  obtain ⟨fy0, zy0, fy1, zy1, fy2, zy2, xy⟩ := ly3 Ry_4.out
  go_wp2_with fail
  refine (sign_dz (x := y) S2.out).mono ?_
  rintro e w5 ⟨rfl, hb⟩
  have L5 := ls L4 hb
  clear fx0 zx0 fx1 zx1 fx2 zx2 xx fy0 zy0 fy1 zy1 fy2 zy2 xy
  have Rx_5 := co Rx_4 hb
  have Ry_5 := co Ry_4 hb
  clear hb 
  obtain ⟨fx0, zx0, fx1, zx1, fx2, zx2, xx⟩ := ly3 Rx_5.out
  obtain ⟨fy0, zy0, fy1, zy1, fy2, zy2, xy⟩ := ly3 Ry_5.out
  go_wp2_with fail
  refine (sign_dz (x := y) S2.out).mono ?_
  rintro e w6 ⟨rfl, hb⟩
  have L6 := ls L5 hb
  clear fx0 zx0 fx1 zx1 fx2 zx2 xx fy0 zy0 fy1 zy1 fy2 zy2 xy
  have Rx_6 := co Rx_5 hb
  have Ry_6 := co Ry_5 hb
  clear hb 
  go_wp2
  go_ret
  exact ⟨rfl, L6.out.1⟩
theorem dcmp_any {A B : Option Addr} {c d : Nat} {m n x y q : Int} {w : World} (h : Dg w A c (digs m.natAbs)) (h' : Dg w B d (digs n.natAbs)) (hl : (digs m.natAbs).length ≤ 400000) (hl' : (digs n.natAbs).length ≤ 400000) (r1 : Rt m x) (r2 : Rt n y) (hq : cmpd (dv m x) (dv n y) = q) :
    Calls Tryz.prog 29 #[.agg #[.bool (decide (m < 0)), .slice A (digs m.natAbs).length c, .int .i64 x], .agg #[.bool (decide (n < 0)), .slice B (digs n.natAbs).length d, .int .i64 y]] w fun e w' => e = .returned (.int .i64 q) ∧ Below w.heap.size w w' := by
  rcases Int.lt_trichotomy (Int.sign m) (Int.sign n) with hc | hc | hc
  · exact cmp_lt_ A B c d m n x y w h h' hl hl' r1 r2 hq hc
  · exact cmp_eq_ A B c d m n x y w h h' hl hl' r1 r2 hq hc
  · exact cmp_gt_ A B c d m n x y w h h' hl hl' r1 r2 hq hc
theorem upto_len2 {m x e0 : Int} (hl : (digs m.natAbs).length ≤ 10000) (h : x - e0 ≤ 262144) : (digs (upto m x e0).natAbs).length ≤ 20000 := by
  have h1 := bl_bd hl
  have h2 := len_bl (upto m x e0)
  have h3 : bl (upto m x e0) ≤ 320000 + 262144 := by
    unfold bl
    by_cases h0 : m.natAbs = 0
    · rw [upto_abs, h0, Nat.zero_mul, blen_zero]; omega
    · rw [upto_abs, blen_up h0]; omega
  omega
theorem zadd_d {A B : Option Addr} {c d : Nat} {p q z : Int} {w : World} (h : Dg w A c (digs p.natAbs)) (h' : Dg w B d (digs q.natAbs)) (hl : (digs p.natAbs).length ≤ 1000000) (hl' : (digs q.natAbs).length ≤ 1000000) (hz : p + q = z) :
    Calls Tryz.prog 81 #[.agg #[.bool (decide (p < 0)), .slice A (digs p.natAbs).length c], .agg #[.bool (decide (q < 0)), .slice B (digs q.natAbs).length d]] w fun e w' => Zr z w e w' := by
  have := zadd_any A B c d (decide (p < 0)) (decide (q < 0)) (digs p.natAbs) (digs q.natAbs) w h h' hl hl'
  rw [sg_dz, sg_dz, hz] at this; exact this
theorem odd_d {A : Option Addr} {c : Nat} {z y M E : Int} {w : World} (h : Dg w A c (digs z.natAbs)) (hl : (digs z.natAbs).length ≤ 500000) (hT : T32 w) (hy0 : -1000000000 ≤ y) (hy1 : y ≤ 1000000000) (hM : nm z = M) (hE : nx z y = E) :
    Calls Tryz.prog 80 #[.agg #[.bool (decide (z < 0)), .slice A (digs z.natAbs).length c], .int .i64 y] w fun e w' => Yr M E w e w' :=
  odd_any A c (decide (z < 0)) z.natAbs y M E w h hl hT ⟨hy0, hy1⟩ (by rw [sg_abs2]; exact hM) (by rw [sg_abs2]; exact hE)
theorem answer_d {A : Option Addr} {c g : Nat} {M E : Int} {w : World} (hc : w.cell? ⟨g, 0, none⟩ = some (.int .i64 0)) (hg : g < w.heap.size) (h : Dg w A c (digs M.natAbs)) (hl : (digs M.natAbs).length ≤ 1000000) (hq : inR M E = true) :
    Calls Tryz.prog 78 #[.pointer (some ⟨g, 0, none⟩), .agg #[.bool (decide (M < 0)), .slice A (digs M.natAbs).length c, .int .i64 E]] w fun e w' => Ye M E 0 w e w' :=
  (answer_yes g A c (decide (M < 0)) M E w hc hg h hl hq).mono fun e w' ⟨he, hd, hb⟩ => ⟨A, (digs M.natAbs).length, he, hd, hb⟩
theorem isz_d {A : Option Addr} {c : Nat} {m x : Int} {q : Bool} {w : World} (hq : decide (m = 0) = q) :
    Calls Tryz.prog 77 #[.agg #[.bool (decide (m < 0)), .slice A (digs m.natAbs).length c, .int .i64 x]] w fun e w' => e = .returned (.bool q) ∧ Below w.heap.size w w' :=
  isZero_any A _ c _ x w q (by
    rw [← hq, Bool.eq_iff_iff]
    simp only [beq_iff_eq, decide_eq_true_eq]
    constructor
    · intro h
      have : (digs m.natAbs).length = 0 := by omega
      have := digs_nil.1 this; omega
    · rintro rfl
      show (((digs 0).length : Nat) : Int) = 0
      rw [digs_zero]; rfl)
theorem inr_len {M E : Int} (h : inR M E = true) : (digs M.natAbs).length ≤ 10000 := by
  have h2 := len_bl M
  unfold inR at h
  rw [decide_eq_true_eq] at h
  rcases h with h | h
  · subst h; show (digs 0).length ≤ 10000; rw [digs_zero]; simp
  · omega
theorem dbytes_yes (A : Option Addr) (c : Nat) (m x : Int) (t : ByteArray) (w : World) (h : Dg w A c (digs m.natAbs)) (hl : (digs m.natAbs).length ≤ 400) (r1 : Rt m x) (hq : inR m x = true) (ht : t.data.toList = zb m ++ zb x):
    Calls Tryz.prog 31 #[.agg #[.bool (decide (m < 0)), .slice A (digs m.natAbs).length c, .int .i64 x]] w fun e w' => e = .returned (.tuple #[.string t, .int .i64 0]) ∧ Below w.heap.size w w' := by
  have HR1 := qH r1
  have lx := qH hl
  have HQ := qH hq
  have x0 := r1.2.1
  have x1 := r1.2.2
  obtain ⟨t1, ht1⟩ : ∃ t : ByteArray, t.data.toList = zb m := ⟨⟨(zb m).toArray⟩, rfl⟩
  obtain ⟨t2, ht2⟩ : ∃ t : ByteArray, t.data.toList = zb x := ⟨⟨(zb x).toArray⟩, rfl⟩
  have HS := qH (show t1 ++ t2 = t by apply ByteArray.ext; apply Array.toList_inj.1; rw [ht, ← ht1, ← ht2]; simp [ByteArray.data_append])
  have HSZ := qH (show ¬ 9223372036854775807 < t1.size + t2.size by
    have e1 : t1.size = t1.data.toList.length := by simp
    have e2 : t2.size = t2.data.toList.length := by simp
    have l1 := zbytes_len (decide (m < 0)) (digs m.natAbs)
    have l2 := zbytes_len (decide (x < 0)) (digs x.natAbs)
    have l3 : (digs x.natAbs).length ≤ 2 := digs_small (by omega)
    rw [e1, e2, ht1, ht2]; unfold zb; omega)
  have ZM := qH (fun W A c hW => zby_yes (A := A) (c := c) hl ht1 W hW)
  have lx2 : (digs x.natAbs).length ≤ 2 := digs_small (by omega)
  have ZX := qH (fun W A c hW => zby_yes (A := A) (c := c) (Nat.le_trans lx2 (by omega)) ht2 W hW)
  have FX := qH (fun W => zfrom_any x W (by omega) (by omega))
  have L0 := qH ((live_start w).add h)
  clear h hl r1 hq ht ht1 ht2 lx2 x0 x1
  go_enter Tryz.func31, Tryz.ntmps31
  go_wp2_with fail
  obtain ⟨v1, hW⟩ : ∃ W : World, W = ((w.alloc (.cells #[.bool (decide (m < 0)), .slice A (digs m.natAbs).length c, .int .i64 x] 26)).alloc (.cells #[.bool (decide (m < 0)), .slice A (digs m.natAbs).length c, .int .i64 x] 26)) := ⟨_, rfl⟩
  rw [← hW]
  have hb : Below w.heap.size w v1 := by rw [hW]; exact (((Below.refl _ _).alloc (by simp <;> omega) _).alloc (by simp <;> omega) _)
  have L1 := qH (L0.out.step hb)
  have Rx_1 := qH (show v1.heap[w.heap.size]? = some (.cells #[.bool (decide (m < 0)), .slice A (digs m.natAbs).length c, .int .i64 x] 26 (0, 0)) by rw [hW]; have := heap_alloc_new w (.cells #[.bool (decide (m < 0)), .slice A (digs m.natAbs).length c, .int .i64 x] 26); rw [heap_alloc_old _ _ (by simp <;> omega)]; simpa using this)
  have Gx : w.heap.size ≤ w.heap.size := by have := L0.out.1.size; omega
  have Rsl_1 := qH (show v1.heap[w.heap.size + 1]? = some (.cells #[.bool (decide (m < 0)), .slice A (digs m.natAbs).length c, .int .i64 x] 26 (0, 0)) by rw [hW]; have := heap_alloc_new (w.alloc (.cells #[.bool (decide (m < 0)), .slice A (digs m.natAbs).length c, .int .i64 x] 26)) (.cells #[.bool (decide (m < 0)), .slice A (digs m.natAbs).length c, .int .i64 x] 26); simpa using this)
  have Gsl : w.heap.size ≤ w.heap.size + 1 := by have := L0.out.1.size; omega
  have Nxsl : w.heap.size < w.heap.size + 1 := by omega
  clear hW hb
  refine (begin_1 Rsl_1.out (L1.out.get (A := A) (c := c) (xs := digs m.natAbs) (by simp)) (dyR_num HR1.out) (Nat.le_trans lx.out (by omega)) (k := 0) rfl).mono ?_
  rintro e w2 ⟨rfl, hb⟩
  have L2 := qH (L1.out.step hb)
  have Rx_2 := qH (cells_of Rx_1.out hb)
  have Rsl_2 := qH (cells_of Rsl_1.out hb)
  clear hb 
  have fx0 := row_c (i := 0) Rx_2.out rfl
  have zx0 := frozen_of_row _ _ 0 _ _ Rx_2.out
  have fx1 := row_c (i := 1) Rx_2.out rfl
  have zx1 := frozen_of_row _ _ 1 _ _ Rx_2.out
  have fx2 := row_c (i := 2) Rx_2.out rfl
  have zx2 := frozen_of_row _ _ 2 _ _ Rx_2.out
  have xx := heap_lt Rx_2.out
  go_wp2_with fail
  obtain ⟨w3, hW⟩ : ∃ W : World, W = (w2.alloc (.cells #[.int .i64 0] 103)) := ⟨_, rfl⟩
  rw [← hW]
  have hb : Below w2.heap.size w2 w3 := by rw [hW]; exact ((Below.refl _ _).alloc (by simp <;> omega) _)
  have L3 := qH (L2.out.step hb)
  have Rx_3 := qH (cells_of Rx_2.out hb)
  have Rsl_3 := qH (cells_of Rsl_2.out hb)
  have Rk_3 := qH (show w3.heap[w2.heap.size]? = some (.cells #[.int .i64 0] 103 (0, 0)) by rw [hW]; have := heap_alloc_new w2 (.cells #[.int .i64 0] 103); simpa using this)
  have Gk : w.heap.size ≤ w2.heap.size := by have := L2.out.1.size; omega
  have Nxk : w.heap.size < w2.heap.size := by have := heap_lt Rx_2.out; omega
  have Nslk : w.heap.size + 1 < w2.heap.size := by have := heap_lt Rsl_2.out; omega
  clear hW hb
  clear fx0 zx0 fx1 zx1 fx2 zx2 xx
  refine (inRange_any A c (decide (m < 0)) m x _ (L3.out.get (A := A) (c := c) (xs := digs m.natAbs) (by simp)) true HQ.out (Nat.le_trans lx.out (by omega))).mono ?_
  rintro e w4 ⟨rfl, hb⟩
  have L4 := qH (L3.out.step hb)
  have Rx_4 := qH (cells_of Rx_3.out hb)
  have Rsl_4 := qH (cells_of Rsl_3.out hb)
  have Rk_4 := qH (cells_of Rk_3.out hb)
  clear hb 
  go_wp2_with fail
  refine (tell_no _ 0 4 false _ (row_c Rk_4.out (i := 0) rfl) (.inl rfl)).mono ?_
  rintro e w5 ⟨rfl, rfl⟩
  have fx0 := row_c (i := 0) Rx_4.out rfl
  have zx0 := frozen_of_row _ _ 0 _ _ Rx_4.out
  have fx1 := row_c (i := 1) Rx_4.out rfl
  have zx1 := frozen_of_row _ _ 1 _ _ Rx_4.out
  have fx2 := row_c (i := 2) Rx_4.out rfl
  have zx2 := frozen_of_row _ _ 2 _ _ Rx_4.out
  have xx := heap_lt Rx_4.out
  go_wp2_with fail
  refine (ZM.out _ _ _ (L4.out.get (A := A) (c := c) (xs := digs m.natAbs) (by simp))).mono ?_
  rintro e w6 ⟨rfl, hb⟩
  have L6 := qH (L4.out.step hb)
  clear fx0 zx0 fx1 zx1 fx2 zx2 xx
  have Rx_6 := qH (cells_of Rx_4.out hb)
  have Rsl_6 := qH (cells_of Rsl_4.out hb)
  have Rk_6 := qH (cells_of Rk_4.out hb)
  clear hb 
  go_wp2_with fail
  refine (tell_no _ 0 0 false _ (row_c Rk_6.out (i := 0) rfl) (.inl rfl)).mono ?_
  rintro e w7 ⟨rfl, rfl⟩
  have fx0 := row_c (i := 0) Rx_6.out rfl
  have zx0 := frozen_of_row _ _ 0 _ _ Rx_6.out
  have fx1 := row_c (i := 1) Rx_6.out rfl
  have zx1 := frozen_of_row _ _ 1 _ _ Rx_6.out
  have fx2 := row_c (i := 2) Rx_6.out rfl
  have zx2 := frozen_of_row _ _ 2 _ _ Rx_6.out
  have xx := heap_lt Rx_6.out
  go_wp2_with fail
  refine (FX.out _).mono ?_
  rintro e w8 ⟨A8, c8, rfl, hd, hb⟩
  have L8 := qH ((L6.out.step hb).add hd)
  clear fx0 zx0 fx1 zx1 fx2 zx2 xx
  have Rx_8 := qH (cells_of Rx_6.out hb)
  have Rsl_8 := qH (cells_of Rsl_6.out hb)
  have Rk_8 := qH (cells_of Rk_6.out hb)
  clear hb hd
  go_wp2_with fail
  refine (ZX.out _ _ _ (L8.out.get (A := A8) (c := c8) (xs := digs x.natAbs) (by simp))).mono ?_
  rintro e w9 ⟨rfl, hb⟩
  have L9 := qH (L8.out.step hb)
  have Rx_9 := qH (cells_of Rx_8.out hb)
  have Rsl_9 := qH (cells_of Rsl_8.out hb)
  have Rk_9 := qH (cells_of Rk_8.out hb)
  clear hb 
  go_wp2_with fail
  refine (tell_no _ 0 0 false _ (row_c Rk_9.out (i := 0) rfl) (.inl rfl)).mono ?_
  rintro e w10 ⟨rfl, rfl⟩
  go_wp2_with fail
  refine (fails_any _ 0 false _ (row_c Rk_9.out (i := 0) rfl) rfl).mono ?_
  rintro e w11 ⟨rfl, rfl⟩
  have hsz := HSZ.out
  go_wp2
  go_ret2
  exact ⟨by rw [HS.out]; rfl, L9.out.1⟩
theorem dtk_a (b t1 t2 : ByteArray) (m n q : Int) (w : World) (T1 : ∀ W, Calls Tryz.prog 96 #[.string b] W fun e w' => Zt m t1 2 W e w') (T2 : ∀ W, Calls Tryz.prog 96 #[.string t1] W fun e w' => Zt n t2 2 W e w') (hl : (digs m.natAbs).length ≤ 400) (hn : (digs n.natAbs).length ≤ 400) (hq : smallz n = q) (hok : smallb n = true) (hR : dyR (decide (m < 0)) (digs m.natAbs) q = false):
    Calls Tryz.prog 73 #[.string b] w fun e w' => e = .returned (.tuple #[.agg #[.bool false, .slice none 0 0, .int .i64 0], .string ⟨#[]⟩, .int .i64 2]) ∧ Below w.heap.size w w' := by
  have HT1 := qH T1
  have HT2 := qH T2
  have lx := qH hl
  have ly := qH hn
  have SM := qH (fun W A c hW => zsm_yes (A := A) (c := c) (Nat.le_trans hn (by omega)) hq hok W hW)
  have HR := qH hR
  have L0 := qH (live_start w)
  clear T1 T2 hl hn hq hok hR
  go_enter Tryz.func73, Tryz.ntmps73
  go_wp2_with fail
  obtain ⟨v1, hW⟩ : ∃ W : World, W = ((w.alloc (.cells #[.bool false, .slice none 0 0, .int .i64 0] 26)).alloc (.cells #[.int .i64 0] 103)) := ⟨_, rfl⟩
  rw [← hW]
  have hb : Below w.heap.size w v1 := by rw [hW]; exact (((Below.refl _ _).alloc (by simp <;> omega) _).alloc (by simp <;> omega) _)
  have L1 := qH (L0.out.step hb)
  have Rr_1 := qH (show v1.heap[w.heap.size]? = some (.cells #[.bool false, .slice none 0 0, .int .i64 0] 26 (0, 0)) by rw [hW]; have := heap_alloc_new w (.cells #[.bool false, .slice none 0 0, .int .i64 0] 26); rw [heap_alloc_old _ _ (by simp <;> omega)]; simpa using this)
  have Gr : w.heap.size ≤ w.heap.size := by have := L0.out.1.size; omega
  have Rk_1 := qH (show v1.heap[w.heap.size + 1]? = some (.cells #[.int .i64 0] 103 (0, 0)) by rw [hW]; have := heap_alloc_new (w.alloc (.cells #[.bool false, .slice none 0 0, .int .i64 0] 26)) (.cells #[.int .i64 0] 103); simpa using this)
  have Gk : w.heap.size ≤ w.heap.size + 1 := by have := L0.out.1.size; omega
  have Nrk : w.heap.size < w.heap.size + 1 := by omega
  clear hW hb
  refine (HT1.out _).mono ?_
  rintro e w2 ⟨A2, c2, rfl, hd, hb⟩
  have L2 := qH ((L1.out.step hb).add hd)
  have Rr_2 := qH (cells_of Rr_1.out hb)
  have Rk_2 := qH (cells_of Rk_1.out hb)
  clear hb hd
  go_wp2_with fail
  obtain ⟨w3, hW⟩ : ∃ W : World, W = (w2.alloc (.cells #[.bool (decide (m < 0)), .slice A2 (digs m.natAbs).length c2] 24)) := ⟨_, rfl⟩
  rw [← hW]
  have hb : Below w2.heap.size w2 w3 := by rw [hW]; exact ((Below.refl _ _).alloc (by simp <;> omega) _)
  have L3 := qH (L2.out.step hb)
  have Rr_3 := qH (cells_of Rr_2.out hb)
  have Rk_3 := qH (cells_of Rk_2.out hb)
  have Ra_3 := qH (show w3.heap[w2.heap.size]? = some (.cells #[.bool (decide (m < 0)), .slice A2 (digs m.natAbs).length c2] 24 (0, 0)) by rw [hW]; have := heap_alloc_new w2 (.cells #[.bool (decide (m < 0)), .slice A2 (digs m.natAbs).length c2] 24); simpa using this)
  have Ga : w.heap.size ≤ w2.heap.size := by have := L2.out.1.size; omega
  have Nra : w.heap.size < w2.heap.size := by have := heap_lt Rr_2.out; omega
  have Nka : w.heap.size + 1 < w2.heap.size := by have := heap_lt Rk_2.out; omega
  clear hW hb
  refine (tell_yes _ 2 _ (row_c Rk_3.out (i := 0) rfl) (frozen_of_row _ _ 0 _ _ Rk_3.out)).mono ?_
  rintro e w4 ⟨rfl, rfl⟩
  obtain ⟨w5, hW⟩ : ∃ W : World, W = (w3.setCell ⟨w.heap.size + 1, 0, none⟩ (.int .i64 2)) := ⟨_, rfl⟩
  rw [← hW]
  have hO : Only (w.heap.size + 1) w3 w5 := by rw [hW]; exact ((Only.refl (w.heap.size + 1) w3).setCell 0 _)
  have L5 := qH (live_only L3.out hO Rk_3.out noint_re Gk)
  have Rr_5 := qH ((hO.block _ (by omega)).trans Rr_3.out)
  have Ra_5 := qH ((hO.block _ (by omega)).trans Ra_3.out)
  have Rk_5 := qH (show w5.heap[w.heap.size + 1]? = some (.cells #[.int .i64 2] 103 (0, 0)) by rw [hW]; exact (heap_setCell_same _ _ 0 _ _ _ Rk_3.out))
  clear hW hO
  go_wp2_with fail
  refine (HT2.out _).mono ?_
  rintro e w6 ⟨A6, c6, rfl, hd, hb⟩
  have L6 := qH ((L5.out.step hb).add hd)
  have Rr_6 := qH (cells_of Rr_5.out hb)
  have Rk_6 := qH (cells_of Rk_5.out hb)
  have Ra_6 := qH (cells_of Ra_5.out hb)
  clear hb hd
  go_wp2_with fail
  obtain ⟨w7, hW⟩ : ∃ W : World, W = (w6.alloc (.cells #[.bool (decide (n < 0)), .slice A6 (digs n.natAbs).length c6] 24)) := ⟨_, rfl⟩
  rw [← hW]
  have hb : Below w6.heap.size w6 w7 := by rw [hW]; exact ((Below.refl _ _).alloc (by simp <;> omega) _)
  have L7 := qH (L6.out.step hb)
  have Rr_7 := qH (cells_of Rr_6.out hb)
  have Rk_7 := qH (cells_of Rk_6.out hb)
  have Ra_7 := qH (cells_of Ra_6.out hb)
  have Rc_7 := qH (show w7.heap[w6.heap.size]? = some (.cells #[.bool (decide (n < 0)), .slice A6 (digs n.natAbs).length c6] 24 (0, 0)) by rw [hW]; have := heap_alloc_new w6 (.cells #[.bool (decide (n < 0)), .slice A6 (digs n.natAbs).length c6] 24); simpa using this)
  have Gc : w.heap.size ≤ w6.heap.size := by have := L6.out.1.size; omega
  have Nrc : w.heap.size < w6.heap.size := by have := heap_lt Rr_6.out; omega
  have Nkc : w.heap.size + 1 < w6.heap.size := by have := heap_lt Rk_6.out; omega
  have Nac : w2.heap.size < w6.heap.size := by have := heap_lt Ra_6.out; omega
  clear hW hb
  refine (tell_no _ 2 2 true _ (row_c Rk_7.out (i := 0) rfl) (.inr rfl)).mono ?_
  rintro e w8 ⟨rfl, rfl⟩
  have fc0 := row_c (i := 0) Rc_7.out rfl
  have zc0 := frozen_of_row _ _ 0 _ _ Rc_7.out
  have fc1 := row_c (i := 1) Rc_7.out rfl
  have zc1 := frozen_of_row _ _ 1 _ _ Rc_7.out
  have xc := heap_lt Rc_7.out
  go_wp2_with fail
  refine (SM.out _ _ _ (L7.out.get (A := A6) (c := c6) (xs := digs n.natAbs) (by simp))).mono ?_
  rintro e w9 ⟨rfl, hb⟩
  have L9 := qH (L7.out.step hb)
  clear fc0 zc0 fc1 zc1 xc
  have Rr_9 := qH (cells_of Rr_7.out hb)
  have Rk_9 := qH (cells_of Rk_7.out hb)
  have Ra_9 := qH (cells_of Ra_7.out hb)
  have Rc_9 := qH (cells_of Rc_7.out hb)
  clear hb 
  have fa0 := row_c (i := 0) Ra_9.out rfl
  have za0 := frozen_of_row _ _ 0 _ _ Ra_9.out
  have fa1 := row_c (i := 1) Ra_9.out rfl
  have za1 := frozen_of_row _ _ 1 _ _ Ra_9.out
  have xa := heap_lt Ra_9.out
  have fr0 := row_c (i := 0) Rr_9.out rfl
  have zr0 := frozen_of_row _ _ 0 _ _ Rr_9.out
  have fr1 := row_c (i := 1) Rr_9.out rfl
  have zr1 := frozen_of_row _ _ 1 _ _ Rr_9.out
  have fr2 := row_c (i := 2) Rr_9.out rfl
  have zr2 := frozen_of_row _ _ 2 _ _ Rr_9.out
  have xr := heap_lt Rr_9.out
  go_wp2_with fail
  obtain ⟨w10, hW⟩ : ∃ W : World, W = (((w9.setCell ⟨w.heap.size, 0, none⟩ (.bool (decide (m < 0)))).setCell ⟨w.heap.size, 1, none⟩ (.slice A2 (digs m.natAbs).length c2)).setCell ⟨w.heap.size, 2, none⟩ (.int .i64 q)) := ⟨_, rfl⟩
  rw [← hW]
  have hO : Only (w.heap.size) w9 w10 := by rw [hW]; exact ((((Only.refl (w.heap.size) w9).setCell 0 _).setCell 1 _).setCell 2 _)
  have L10 := qH (live_only L9.out hO Rr_9.out noint_dy Gr)
  have Rk_10 := qH ((hO.block _ (by omega)).trans Rk_9.out)
  have Ra_10 := qH ((hO.block _ (by omega)).trans Ra_9.out)
  have Rc_10 := qH ((hO.block _ (by omega)).trans Rc_9.out)
  have Rr_10 := qH (show w10.heap[w.heap.size]? = some (.cells #[.bool (decide (m < 0)), .slice A2 (digs m.natAbs).length c2, .int .i64 q] 26 (0, 0)) by rw [hW]; exact (heap_setCell_same _ _ 2 _ _ _ (heap_setCell_same _ _ 1 _ _ _ (heap_setCell_same _ _ 0 _ _ _ Rr_9.out))))
  clear hW hO
  clear fa0 za0 fa1 za1 xa fr0 zr0 fr1 zr1 fr2 zr2 xr
  have fr0 := row_c (i := 0) Rr_10.out rfl
  have zr0 := frozen_of_row _ _ 0 _ _ Rr_10.out
  have fr1 := row_c (i := 1) Rr_10.out rfl
  have zr1 := frozen_of_row _ _ 1 _ _ Rr_10.out
  have fr2 := row_c (i := 2) Rr_10.out rfl
  have zr2 := frozen_of_row _ _ 2 _ _ Rr_10.out
  have xr := heap_lt Rr_10.out
  go_wp2_with fail
  refine (dright_any A2 c2 (decide (m < 0)) (digs m.natAbs) q _ (L10.out.get (A := A2) (c := c2) (xs := digs m.natAbs) (by simp)) false HR.out (Nat.le_trans lx.out (by omega))).mono ?_
  rintro e w11 ⟨rfl, hb⟩
  have L11 := qH (L10.out.step hb)
  clear fr0 zr0 fr1 zr1 fr2 zr2 xr
  have Rr_11 := qH (cells_of Rr_10.out hb)
  have Rk_11 := qH (cells_of Rk_10.out hb)
  have Ra_11 := qH (cells_of Ra_10.out hb)
  have Rc_11 := qH (cells_of Rc_10.out hb)
  clear hb 
  go_wp2_with fail
  refine (tell_no _ 2 2 true _ (row_c Rk_11.out (i := 0) rfl) (.inr rfl)).mono ?_
  rintro e w12 ⟨rfl, rfl⟩
  go_wp2_with fail
  refine (fails_any _ 2 true _ (row_c Rk_11.out (i := 0) rfl) rfl).mono ?_
  rintro e w13 ⟨rfl, rfl⟩
  have fk0 := row_c (i := 0) Rk_11.out rfl
  have zk0 := frozen_of_row _ _ 0 _ _ Rk_11.out
  have xk := heap_lt Rk_11.out
  have fr0 := row_c (i := 0) Rr_11.out rfl
  have zr0 := frozen_of_row _ _ 0 _ _ Rr_11.out
  have fr1 := row_c (i := 1) Rr_11.out rfl
  have zr1 := frozen_of_row _ _ 1 _ _ Rr_11.out
  have fr2 := row_c (i := 2) Rr_11.out rfl
  have zr2 := frozen_of_row _ _ 2 _ _ Rr_11.out
  have xr := heap_lt Rr_11.out
  go_wp2_with fail
  go_region
  go_wp2
  clear fk0 zk0 xk fr0 zr0 fr1 zr1 fr2 zr2 xr
  obtain ⟨w14, hW⟩ : ∃ W : World, W = (((w11.setCell ⟨w.heap.size, 0, none⟩ (.bool false)).setCell ⟨w.heap.size, 1, none⟩ (.slice none 0 0)).setCell ⟨w.heap.size, 2, none⟩ (.int .i64 0)) := ⟨_, rfl⟩
  rw [← hW]
  have hO : Only (w.heap.size) w11 w14 := by rw [hW]; exact ((((Only.refl (w.heap.size) w11).setCell 0 _).setCell 1 _).setCell 2 _)
  have L14 := qH (live_only L11.out hO Rr_11.out noint_dy Gr)
  have Rk_14 := qH ((hO.block _ (by omega)).trans Rk_11.out)
  have Ra_14 := qH ((hO.block _ (by omega)).trans Ra_11.out)
  have Rc_14 := qH ((hO.block _ (by omega)).trans Rc_11.out)
  have Rr_14 := qH (show w14.heap[w.heap.size]? = some (.cells #[.bool false, .slice none 0 0, .int .i64 0] 26 (0, 0)) by rw [hW]; exact (heap_setCell_same _ _ 2 _ _ _ (heap_setCell_same _ _ 1 _ _ _ (heap_setCell_same _ _ 0 _ _ _ Rr_11.out))))
  clear hW hO
  obtain ⟨w15, hW⟩ : ∃ W : World, W = w14.drew := ⟨_, rfl⟩
  rw [← hW]
  have hb : Below w14.heap.size w14 w15 := by rw [hW]; exact bd0 _
  have L15 := qH (L14.out.step hb)
  have Rr_15 := qH (cells_of Rr_14.out hb)
  have Rk_15 := qH (cells_of Rk_14.out hb)
  have Ra_15 := qH (cells_of Ra_14.out hb)
  have Rc_15 := qH (cells_of Rc_14.out hb)
  clear hW hb
  have fr0 := row_c (i := 0) Rr_15.out rfl
  have zr0 := frozen_of_row _ _ 0 _ _ Rr_15.out
  have fr1 := row_c (i := 1) Rr_15.out rfl
  have zr1 := frozen_of_row _ _ 1 _ _ Rr_15.out
  have fr2 := row_c (i := 2) Rr_15.out rfl
  have zr2 := frozen_of_row _ _ 2 _ _ Rr_15.out
  have xr := heap_lt Rr_15.out
  refine bodyPost_ret (v := .tuple #[.agg #[.bool false, .slice none 0 0, .int .i64 0], .string ⟨#[]⟩, .int .i64 2]) (by simp [results, Tryz.results73, go_sem, fr0, fr1, fr2]) rfl ?_
  exact ⟨rfl, L15.out.1⟩
theorem dtk_b (b t1 t2 : ByteArray) (m n q : Int) (bI : Bool) (w : World) (T1 : ∀ W, Calls Tryz.prog 96 #[.string b] W fun e w' => Zt m t1 2 W e w') (T2 : ∀ W, Calls Tryz.prog 96 #[.string t1] W fun e w' => Zt n t2 2 W e w') (hl : (digs m.natAbs).length ≤ 400) (hn : (digs n.natAbs).length ≤ 400) (hq : smallz n = q) (hok : smallb n = true) (hR : dyR (decide (m < 0)) (digs m.natAbs) q = true) (hI : inR m q = bI):
    Calls Tryz.prog 73 #[.string b] w fun e w' => e = .returned (.tuple #[.agg #[.bool false, .slice none 0 0, .int .i64 0], .string ⟨#[]⟩, .int .i64 2]) ∧ Below w.heap.size w w' := by
  have HT1 := qH T1
  have HT2 := qH T2
  have lx := qH hl
  have ly := qH hn
  have SM := qH (fun W A c hW => zsm_yes (A := A) (c := c) (Nat.le_trans hn (by omega)) hq hok W hW)
  have HR := qH hR
  have HI := qH hI
  have L0 := qH (live_start w)
  clear T1 T2 hl hn hq hok hR hI
  go_enter Tryz.func73, Tryz.ntmps73
  go_wp2_with fail
  obtain ⟨v1, hW⟩ : ∃ W : World, W = ((w.alloc (.cells #[.bool false, .slice none 0 0, .int .i64 0] 26)).alloc (.cells #[.int .i64 0] 103)) := ⟨_, rfl⟩
  rw [← hW]
  have hb : Below w.heap.size w v1 := by rw [hW]; exact (((Below.refl _ _).alloc (by simp <;> omega) _).alloc (by simp <;> omega) _)
  have L1 := qH (L0.out.step hb)
  have Rr_1 := qH (show v1.heap[w.heap.size]? = some (.cells #[.bool false, .slice none 0 0, .int .i64 0] 26 (0, 0)) by rw [hW]; have := heap_alloc_new w (.cells #[.bool false, .slice none 0 0, .int .i64 0] 26); rw [heap_alloc_old _ _ (by simp <;> omega)]; simpa using this)
  have Gr : w.heap.size ≤ w.heap.size := by have := L0.out.1.size; omega
  have Rk_1 := qH (show v1.heap[w.heap.size + 1]? = some (.cells #[.int .i64 0] 103 (0, 0)) by rw [hW]; have := heap_alloc_new (w.alloc (.cells #[.bool false, .slice none 0 0, .int .i64 0] 26)) (.cells #[.int .i64 0] 103); simpa using this)
  have Gk : w.heap.size ≤ w.heap.size + 1 := by have := L0.out.1.size; omega
  have Nrk : w.heap.size < w.heap.size + 1 := by omega
  clear hW hb
  refine (HT1.out _).mono ?_
  rintro e w2 ⟨A2, c2, rfl, hd, hb⟩
  have L2 := qH ((L1.out.step hb).add hd)
  have Rr_2 := qH (cells_of Rr_1.out hb)
  have Rk_2 := qH (cells_of Rk_1.out hb)
  clear hb hd
  go_wp2_with fail
  obtain ⟨w3, hW⟩ : ∃ W : World, W = (w2.alloc (.cells #[.bool (decide (m < 0)), .slice A2 (digs m.natAbs).length c2] 24)) := ⟨_, rfl⟩
  rw [← hW]
  have hb : Below w2.heap.size w2 w3 := by rw [hW]; exact ((Below.refl _ _).alloc (by simp <;> omega) _)
  have L3 := qH (L2.out.step hb)
  have Rr_3 := qH (cells_of Rr_2.out hb)
  have Rk_3 := qH (cells_of Rk_2.out hb)
  have Ra_3 := qH (show w3.heap[w2.heap.size]? = some (.cells #[.bool (decide (m < 0)), .slice A2 (digs m.natAbs).length c2] 24 (0, 0)) by rw [hW]; have := heap_alloc_new w2 (.cells #[.bool (decide (m < 0)), .slice A2 (digs m.natAbs).length c2] 24); simpa using this)
  have Ga : w.heap.size ≤ w2.heap.size := by have := L2.out.1.size; omega
  have Nra : w.heap.size < w2.heap.size := by have := heap_lt Rr_2.out; omega
  have Nka : w.heap.size + 1 < w2.heap.size := by have := heap_lt Rk_2.out; omega
  clear hW hb
  refine (tell_yes _ 2 _ (row_c Rk_3.out (i := 0) rfl) (frozen_of_row _ _ 0 _ _ Rk_3.out)).mono ?_
  rintro e w4 ⟨rfl, rfl⟩
  obtain ⟨w5, hW⟩ : ∃ W : World, W = (w3.setCell ⟨w.heap.size + 1, 0, none⟩ (.int .i64 2)) := ⟨_, rfl⟩
  rw [← hW]
  have hO : Only (w.heap.size + 1) w3 w5 := by rw [hW]; exact ((Only.refl (w.heap.size + 1) w3).setCell 0 _)
  have L5 := qH (live_only L3.out hO Rk_3.out noint_re Gk)
  have Rr_5 := qH ((hO.block _ (by omega)).trans Rr_3.out)
  have Ra_5 := qH ((hO.block _ (by omega)).trans Ra_3.out)
  have Rk_5 := qH (show w5.heap[w.heap.size + 1]? = some (.cells #[.int .i64 2] 103 (0, 0)) by rw [hW]; exact (heap_setCell_same _ _ 0 _ _ _ Rk_3.out))
  clear hW hO
  go_wp2_with fail
  refine (HT2.out _).mono ?_
  rintro e w6 ⟨A6, c6, rfl, hd, hb⟩
  have L6 := qH ((L5.out.step hb).add hd)
  have Rr_6 := qH (cells_of Rr_5.out hb)
  have Rk_6 := qH (cells_of Rk_5.out hb)
  have Ra_6 := qH (cells_of Ra_5.out hb)
  clear hb hd
  go_wp2_with fail
  obtain ⟨w7, hW⟩ : ∃ W : World, W = (w6.alloc (.cells #[.bool (decide (n < 0)), .slice A6 (digs n.natAbs).length c6] 24)) := ⟨_, rfl⟩
  rw [← hW]
  have hb : Below w6.heap.size w6 w7 := by rw [hW]; exact ((Below.refl _ _).alloc (by simp <;> omega) _)
  have L7 := qH (L6.out.step hb)
  have Rr_7 := qH (cells_of Rr_6.out hb)
  have Rk_7 := qH (cells_of Rk_6.out hb)
  have Ra_7 := qH (cells_of Ra_6.out hb)
  have Rc_7 := qH (show w7.heap[w6.heap.size]? = some (.cells #[.bool (decide (n < 0)), .slice A6 (digs n.natAbs).length c6] 24 (0, 0)) by rw [hW]; have := heap_alloc_new w6 (.cells #[.bool (decide (n < 0)), .slice A6 (digs n.natAbs).length c6] 24); simpa using this)
  have Gc : w.heap.size ≤ w6.heap.size := by have := L6.out.1.size; omega
  have Nrc : w.heap.size < w6.heap.size := by have := heap_lt Rr_6.out; omega
  have Nkc : w.heap.size + 1 < w6.heap.size := by have := heap_lt Rk_6.out; omega
  have Nac : w2.heap.size < w6.heap.size := by have := heap_lt Ra_6.out; omega
  clear hW hb
  refine (tell_no _ 2 2 true _ (row_c Rk_7.out (i := 0) rfl) (.inr rfl)).mono ?_
  rintro e w8 ⟨rfl, rfl⟩
  have fc0 := row_c (i := 0) Rc_7.out rfl
  have zc0 := frozen_of_row _ _ 0 _ _ Rc_7.out
  have fc1 := row_c (i := 1) Rc_7.out rfl
  have zc1 := frozen_of_row _ _ 1 _ _ Rc_7.out
  have xc := heap_lt Rc_7.out
  go_wp2_with fail
  refine (SM.out _ _ _ (L7.out.get (A := A6) (c := c6) (xs := digs n.natAbs) (by simp))).mono ?_
  rintro e w9 ⟨rfl, hb⟩
  have L9 := qH (L7.out.step hb)
  clear fc0 zc0 fc1 zc1 xc
  have Rr_9 := qH (cells_of Rr_7.out hb)
  have Rk_9 := qH (cells_of Rk_7.out hb)
  have Ra_9 := qH (cells_of Ra_7.out hb)
  have Rc_9 := qH (cells_of Rc_7.out hb)
  clear hb 
  have fa0 := row_c (i := 0) Ra_9.out rfl
  have za0 := frozen_of_row _ _ 0 _ _ Ra_9.out
  have fa1 := row_c (i := 1) Ra_9.out rfl
  have za1 := frozen_of_row _ _ 1 _ _ Ra_9.out
  have xa := heap_lt Ra_9.out
  have fr0 := row_c (i := 0) Rr_9.out rfl
  have zr0 := frozen_of_row _ _ 0 _ _ Rr_9.out
  have fr1 := row_c (i := 1) Rr_9.out rfl
  have zr1 := frozen_of_row _ _ 1 _ _ Rr_9.out
  have fr2 := row_c (i := 2) Rr_9.out rfl
  have zr2 := frozen_of_row _ _ 2 _ _ Rr_9.out
  have xr := heap_lt Rr_9.out
  go_wp2_with fail
  obtain ⟨w10, hW⟩ : ∃ W : World, W = (((w9.setCell ⟨w.heap.size, 0, none⟩ (.bool (decide (m < 0)))).setCell ⟨w.heap.size, 1, none⟩ (.slice A2 (digs m.natAbs).length c2)).setCell ⟨w.heap.size, 2, none⟩ (.int .i64 q)) := ⟨_, rfl⟩
  rw [← hW]
  have hO : Only (w.heap.size) w9 w10 := by rw [hW]; exact ((((Only.refl (w.heap.size) w9).setCell 0 _).setCell 1 _).setCell 2 _)
  have L10 := qH (live_only L9.out hO Rr_9.out noint_dy Gr)
  have Rk_10 := qH ((hO.block _ (by omega)).trans Rk_9.out)
  have Ra_10 := qH ((hO.block _ (by omega)).trans Ra_9.out)
  have Rc_10 := qH ((hO.block _ (by omega)).trans Rc_9.out)
  have Rr_10 := qH (show w10.heap[w.heap.size]? = some (.cells #[.bool (decide (m < 0)), .slice A2 (digs m.natAbs).length c2, .int .i64 q] 26 (0, 0)) by rw [hW]; exact (heap_setCell_same _ _ 2 _ _ _ (heap_setCell_same _ _ 1 _ _ _ (heap_setCell_same _ _ 0 _ _ _ Rr_9.out))))
  clear hW hO
  clear fa0 za0 fa1 za1 xa fr0 zr0 fr1 zr1 fr2 zr2 xr
  have fr0 := row_c (i := 0) Rr_10.out rfl
  have zr0 := frozen_of_row _ _ 0 _ _ Rr_10.out
  have fr1 := row_c (i := 1) Rr_10.out rfl
  have zr1 := frozen_of_row _ _ 1 _ _ Rr_10.out
  have fr2 := row_c (i := 2) Rr_10.out rfl
  have zr2 := frozen_of_row _ _ 2 _ _ Rr_10.out
  have xr := heap_lt Rr_10.out
  go_wp2_with fail
  refine (dright_any A2 c2 (decide (m < 0)) (digs m.natAbs) q _ (L10.out.get (A := A2) (c := c2) (xs := digs m.natAbs) (by simp)) true HR.out (Nat.le_trans lx.out (by omega))).mono ?_
  rintro e w11 ⟨rfl, hb⟩
  have L11 := qH (L10.out.step hb)
  clear fr0 zr0 fr1 zr1 fr2 zr2 xr
  have Rr_11 := qH (cells_of Rr_10.out hb)
  have Rk_11 := qH (cells_of Rk_10.out hb)
  have Ra_11 := qH (cells_of Ra_10.out hb)
  have Rc_11 := qH (cells_of Rc_10.out hb)
  clear hb 
  have fr0 := row_c (i := 0) Rr_11.out rfl
  have zr0 := frozen_of_row _ _ 0 _ _ Rr_11.out
  have fr1 := row_c (i := 1) Rr_11.out rfl
  have zr1 := frozen_of_row _ _ 1 _ _ Rr_11.out
  have fr2 := row_c (i := 2) Rr_11.out rfl
  have zr2 := frozen_of_row _ _ 2 _ _ Rr_11.out
  have xr := heap_lt Rr_11.out
  go_wp2_with fail
  refine (inRange_any A2 c2 (decide (m < 0)) m q _ (L11.out.get (A := A2) (c := c2) (xs := digs m.natAbs) (by simp)) bI HI.out (Nat.le_trans lx.out (by omega))).mono ?_
  rintro e w12 ⟨rfl, hb⟩
  have L12 := qH (L11.out.step hb)
  clear fr0 zr0 fr1 zr1 fr2 zr2 xr
  have Rr_12 := qH (cells_of Rr_11.out hb)
  have Rk_12 := qH (cells_of Rk_11.out hb)
  have Ra_12 := qH (cells_of Ra_11.out hb)
  have Rc_12 := qH (cells_of Rc_11.out hb)
  clear hb 
  go_wp2_with fail
  refine (tell_no _ 2 2 (!bI) _ (row_c Rk_12.out (i := 0) rfl) (.inr rfl)).mono ?_
  rintro e w13 ⟨rfl, rfl⟩
  go_wp2_with fail
  refine (fails_any _ 2 true _ (row_c Rk_12.out (i := 0) rfl) rfl).mono ?_
  rintro e w14 ⟨rfl, rfl⟩
  have fk0 := row_c (i := 0) Rk_12.out rfl
  have zk0 := frozen_of_row _ _ 0 _ _ Rk_12.out
  have xk := heap_lt Rk_12.out
  have fr0 := row_c (i := 0) Rr_12.out rfl
  have zr0 := frozen_of_row _ _ 0 _ _ Rr_12.out
  have fr1 := row_c (i := 1) Rr_12.out rfl
  have zr1 := frozen_of_row _ _ 1 _ _ Rr_12.out
  have fr2 := row_c (i := 2) Rr_12.out rfl
  have zr2 := frozen_of_row _ _ 2 _ _ Rr_12.out
  have xr := heap_lt Rr_12.out
  go_wp2_with fail
  go_region
  go_wp2
  clear fk0 zk0 xk fr0 zr0 fr1 zr1 fr2 zr2 xr
  obtain ⟨w15, hW⟩ : ∃ W : World, W = (((w12.setCell ⟨w.heap.size, 0, none⟩ (.bool false)).setCell ⟨w.heap.size, 1, none⟩ (.slice none 0 0)).setCell ⟨w.heap.size, 2, none⟩ (.int .i64 0)) := ⟨_, rfl⟩
  rw [← hW]
  have hO : Only (w.heap.size) w12 w15 := by rw [hW]; exact ((((Only.refl (w.heap.size) w12).setCell 0 _).setCell 1 _).setCell 2 _)
  have L15 := qH (live_only L12.out hO Rr_12.out noint_dy Gr)
  have Rk_15 := qH ((hO.block _ (by omega)).trans Rk_12.out)
  have Ra_15 := qH ((hO.block _ (by omega)).trans Ra_12.out)
  have Rc_15 := qH ((hO.block _ (by omega)).trans Rc_12.out)
  have Rr_15 := qH (show w15.heap[w.heap.size]? = some (.cells #[.bool false, .slice none 0 0, .int .i64 0] 26 (0, 0)) by rw [hW]; exact (heap_setCell_same _ _ 2 _ _ _ (heap_setCell_same _ _ 1 _ _ _ (heap_setCell_same _ _ 0 _ _ _ Rr_12.out))))
  clear hW hO
  obtain ⟨w16, hW⟩ : ∃ W : World, W = w15.drew := ⟨_, rfl⟩
  rw [← hW]
  have hb : Below w15.heap.size w15 w16 := by rw [hW]; exact bd0 _
  have L16 := qH (L15.out.step hb)
  have Rr_16 := qH (cells_of Rr_15.out hb)
  have Rk_16 := qH (cells_of Rk_15.out hb)
  have Ra_16 := qH (cells_of Ra_15.out hb)
  have Rc_16 := qH (cells_of Rc_15.out hb)
  clear hW hb
  have fr0 := row_c (i := 0) Rr_16.out rfl
  have zr0 := frozen_of_row _ _ 0 _ _ Rr_16.out
  have fr1 := row_c (i := 1) Rr_16.out rfl
  have zr1 := frozen_of_row _ _ 1 _ _ Rr_16.out
  have fr2 := row_c (i := 2) Rr_16.out rfl
  have zr2 := frozen_of_row _ _ 2 _ _ Rr_16.out
  have xr := heap_lt Rr_16.out
  refine bodyPost_ret (v := .tuple #[.agg #[.bool false, .slice none 0 0, .int .i64 0], .string ⟨#[]⟩, .int .i64 2]) (by simp [results, Tryz.results73, go_sem, fr0, fr1, fr2]) rfl ?_
  exact ⟨rfl, L16.out.1⟩
theorem dtk_c (b t1 t2 : ByteArray) (m n q : Int) (w : World) (T1 : ∀ W, Calls Tryz.prog 96 #[.string b] W fun e w' => Zt m t1 0 W e w') (T2 : ∀ W, Calls Tryz.prog 96 #[.string t1] W fun e w' => Zt n t2 2 W e w') (hl : (digs m.natAbs).length ≤ 400) (hn : (digs n.natAbs).length ≤ 400) (hq : smallz n = q) (hok : smallb n = true) (hR : dyR (decide (m < 0)) (digs m.natAbs) q = false):
    Calls Tryz.prog 73 #[.string b] w fun e w' => e = .returned (.tuple #[.agg #[.bool false, .slice none 0 0, .int .i64 0], .string ⟨#[]⟩, .int .i64 2]) ∧ Below w.heap.size w w' := by
  have HT1 := qH T1
  have HT2 := qH T2
  have lx := qH hl
  have ly := qH hn
  have SM := qH (fun W A c hW => zsm_yes (A := A) (c := c) (Nat.le_trans hn (by omega)) hq hok W hW)
  have HR := qH hR
  have L0 := qH (live_start w)
  clear T1 T2 hl hn hq hok hR
  go_enter Tryz.func73, Tryz.ntmps73
  go_wp2_with fail
  obtain ⟨v1, hW⟩ : ∃ W : World, W = ((w.alloc (.cells #[.bool false, .slice none 0 0, .int .i64 0] 26)).alloc (.cells #[.int .i64 0] 103)) := ⟨_, rfl⟩
  rw [← hW]
  have hb : Below w.heap.size w v1 := by rw [hW]; exact (((Below.refl _ _).alloc (by simp <;> omega) _).alloc (by simp <;> omega) _)
  have L1 := qH (L0.out.step hb)
  have Rr_1 := qH (show v1.heap[w.heap.size]? = some (.cells #[.bool false, .slice none 0 0, .int .i64 0] 26 (0, 0)) by rw [hW]; have := heap_alloc_new w (.cells #[.bool false, .slice none 0 0, .int .i64 0] 26); rw [heap_alloc_old _ _ (by simp <;> omega)]; simpa using this)
  have Gr : w.heap.size ≤ w.heap.size := by have := L0.out.1.size; omega
  have Rk_1 := qH (show v1.heap[w.heap.size + 1]? = some (.cells #[.int .i64 0] 103 (0, 0)) by rw [hW]; have := heap_alloc_new (w.alloc (.cells #[.bool false, .slice none 0 0, .int .i64 0] 26)) (.cells #[.int .i64 0] 103); simpa using this)
  have Gk : w.heap.size ≤ w.heap.size + 1 := by have := L0.out.1.size; omega
  have Nrk : w.heap.size < w.heap.size + 1 := by omega
  clear hW hb
  refine (HT1.out _).mono ?_
  rintro e w2 ⟨A2, c2, rfl, hd, hb⟩
  have L2 := qH ((L1.out.step hb).add hd)
  have Rr_2 := qH (cells_of Rr_1.out hb)
  have Rk_2 := qH (cells_of Rk_1.out hb)
  clear hb hd
  go_wp2_with fail
  obtain ⟨w3, hW⟩ : ∃ W : World, W = (w2.alloc (.cells #[.bool (decide (m < 0)), .slice A2 (digs m.natAbs).length c2] 24)) := ⟨_, rfl⟩
  rw [← hW]
  have hb : Below w2.heap.size w2 w3 := by rw [hW]; exact ((Below.refl _ _).alloc (by simp <;> omega) _)
  have L3 := qH (L2.out.step hb)
  have Rr_3 := qH (cells_of Rr_2.out hb)
  have Rk_3 := qH (cells_of Rk_2.out hb)
  have Ra_3 := qH (show w3.heap[w2.heap.size]? = some (.cells #[.bool (decide (m < 0)), .slice A2 (digs m.natAbs).length c2] 24 (0, 0)) by rw [hW]; have := heap_alloc_new w2 (.cells #[.bool (decide (m < 0)), .slice A2 (digs m.natAbs).length c2] 24); simpa using this)
  have Ga : w.heap.size ≤ w2.heap.size := by have := L2.out.1.size; omega
  have Nra : w.heap.size < w2.heap.size := by have := heap_lt Rr_2.out; omega
  have Nka : w.heap.size + 1 < w2.heap.size := by have := heap_lt Rk_2.out; omega
  clear hW hb
  refine (tell_no _ 0 0 false _ (row_c Rk_3.out (i := 0) rfl) (.inl rfl)).mono ?_
  rintro e w4 ⟨rfl, rfl⟩
  go_wp2_with fail
  refine (HT2.out _).mono ?_
  rintro e w5 ⟨A5, c5, rfl, hd, hb⟩
  have L5 := qH ((L3.out.step hb).add hd)
  have Rr_5 := qH (cells_of Rr_3.out hb)
  have Rk_5 := qH (cells_of Rk_3.out hb)
  have Ra_5 := qH (cells_of Ra_3.out hb)
  clear hb hd
  go_wp2_with fail
  obtain ⟨w6, hW⟩ : ∃ W : World, W = (w5.alloc (.cells #[.bool (decide (n < 0)), .slice A5 (digs n.natAbs).length c5] 24)) := ⟨_, rfl⟩
  rw [← hW]
  have hb : Below w5.heap.size w5 w6 := by rw [hW]; exact ((Below.refl _ _).alloc (by simp <;> omega) _)
  have L6 := qH (L5.out.step hb)
  have Rr_6 := qH (cells_of Rr_5.out hb)
  have Rk_6 := qH (cells_of Rk_5.out hb)
  have Ra_6 := qH (cells_of Ra_5.out hb)
  have Rc_6 := qH (show w6.heap[w5.heap.size]? = some (.cells #[.bool (decide (n < 0)), .slice A5 (digs n.natAbs).length c5] 24 (0, 0)) by rw [hW]; have := heap_alloc_new w5 (.cells #[.bool (decide (n < 0)), .slice A5 (digs n.natAbs).length c5] 24); simpa using this)
  have Gc : w.heap.size ≤ w5.heap.size := by have := L5.out.1.size; omega
  have Nrc : w.heap.size < w5.heap.size := by have := heap_lt Rr_5.out; omega
  have Nkc : w.heap.size + 1 < w5.heap.size := by have := heap_lt Rk_5.out; omega
  have Nac : w2.heap.size < w5.heap.size := by have := heap_lt Ra_5.out; omega
  clear hW hb
  refine (tell_yes _ 2 _ (row_c Rk_6.out (i := 0) rfl) (frozen_of_row _ _ 0 _ _ Rk_6.out)).mono ?_
  rintro e w7 ⟨rfl, rfl⟩
  obtain ⟨w8, hW⟩ : ∃ W : World, W = (w6.setCell ⟨w.heap.size + 1, 0, none⟩ (.int .i64 2)) := ⟨_, rfl⟩
  rw [← hW]
  have hO : Only (w.heap.size + 1) w6 w8 := by rw [hW]; exact ((Only.refl (w.heap.size + 1) w6).setCell 0 _)
  have L8 := qH (live_only L6.out hO Rk_6.out noint_re Gk)
  have Rr_8 := qH ((hO.block _ (by omega)).trans Rr_6.out)
  have Ra_8 := qH ((hO.block _ (by omega)).trans Ra_6.out)
  have Rc_8 := qH ((hO.block _ (by omega)).trans Rc_6.out)
  have Rk_8 := qH (show w8.heap[w.heap.size + 1]? = some (.cells #[.int .i64 2] 103 (0, 0)) by rw [hW]; exact (heap_setCell_same _ _ 0 _ _ _ Rk_6.out))
  clear hW hO
  have fc0 := row_c (i := 0) Rc_8.out rfl
  have zc0 := frozen_of_row _ _ 0 _ _ Rc_8.out
  have fc1 := row_c (i := 1) Rc_8.out rfl
  have zc1 := frozen_of_row _ _ 1 _ _ Rc_8.out
  have xc := heap_lt Rc_8.out
  go_wp2_with fail
  refine (SM.out _ _ _ (L8.out.get (A := A5) (c := c5) (xs := digs n.natAbs) (by simp))).mono ?_
  rintro e w9 ⟨rfl, hb⟩
  have L9 := qH (L8.out.step hb)
  clear fc0 zc0 fc1 zc1 xc
  have Rr_9 := qH (cells_of Rr_8.out hb)
  have Rk_9 := qH (cells_of Rk_8.out hb)
  have Ra_9 := qH (cells_of Ra_8.out hb)
  have Rc_9 := qH (cells_of Rc_8.out hb)
  clear hb 
  have fa0 := row_c (i := 0) Ra_9.out rfl
  have za0 := frozen_of_row _ _ 0 _ _ Ra_9.out
  have fa1 := row_c (i := 1) Ra_9.out rfl
  have za1 := frozen_of_row _ _ 1 _ _ Ra_9.out
  have xa := heap_lt Ra_9.out
  have fr0 := row_c (i := 0) Rr_9.out rfl
  have zr0 := frozen_of_row _ _ 0 _ _ Rr_9.out
  have fr1 := row_c (i := 1) Rr_9.out rfl
  have zr1 := frozen_of_row _ _ 1 _ _ Rr_9.out
  have fr2 := row_c (i := 2) Rr_9.out rfl
  have zr2 := frozen_of_row _ _ 2 _ _ Rr_9.out
  have xr := heap_lt Rr_9.out
  go_wp2_with fail
  obtain ⟨w10, hW⟩ : ∃ W : World, W = (((w9.setCell ⟨w.heap.size, 0, none⟩ (.bool (decide (m < 0)))).setCell ⟨w.heap.size, 1, none⟩ (.slice A2 (digs m.natAbs).length c2)).setCell ⟨w.heap.size, 2, none⟩ (.int .i64 q)) := ⟨_, rfl⟩
  rw [← hW]
  have hO : Only (w.heap.size) w9 w10 := by rw [hW]; exact ((((Only.refl (w.heap.size) w9).setCell 0 _).setCell 1 _).setCell 2 _)
  have L10 := qH (live_only L9.out hO Rr_9.out noint_dy Gr)
  have Rk_10 := qH ((hO.block _ (by omega)).trans Rk_9.out)
  have Ra_10 := qH ((hO.block _ (by omega)).trans Ra_9.out)
  have Rc_10 := qH ((hO.block _ (by omega)).trans Rc_9.out)
  have Rr_10 := qH (show w10.heap[w.heap.size]? = some (.cells #[.bool (decide (m < 0)), .slice A2 (digs m.natAbs).length c2, .int .i64 q] 26 (0, 0)) by rw [hW]; exact (heap_setCell_same _ _ 2 _ _ _ (heap_setCell_same _ _ 1 _ _ _ (heap_setCell_same _ _ 0 _ _ _ Rr_9.out))))
  clear hW hO
  clear fa0 za0 fa1 za1 xa fr0 zr0 fr1 zr1 fr2 zr2 xr
  have fr0 := row_c (i := 0) Rr_10.out rfl
  have zr0 := frozen_of_row _ _ 0 _ _ Rr_10.out
  have fr1 := row_c (i := 1) Rr_10.out rfl
  have zr1 := frozen_of_row _ _ 1 _ _ Rr_10.out
  have fr2 := row_c (i := 2) Rr_10.out rfl
  have zr2 := frozen_of_row _ _ 2 _ _ Rr_10.out
  have xr := heap_lt Rr_10.out
  go_wp2_with fail
  refine (dright_any A2 c2 (decide (m < 0)) (digs m.natAbs) q _ (L10.out.get (A := A2) (c := c2) (xs := digs m.natAbs) (by simp)) false HR.out (Nat.le_trans lx.out (by omega))).mono ?_
  rintro e w11 ⟨rfl, hb⟩
  have L11 := qH (L10.out.step hb)
  clear fr0 zr0 fr1 zr1 fr2 zr2 xr
  have Rr_11 := qH (cells_of Rr_10.out hb)
  have Rk_11 := qH (cells_of Rk_10.out hb)
  have Ra_11 := qH (cells_of Ra_10.out hb)
  have Rc_11 := qH (cells_of Rc_10.out hb)
  clear hb 
  go_wp2_with fail
  refine (tell_no _ 2 2 true _ (row_c Rk_11.out (i := 0) rfl) (.inr rfl)).mono ?_
  rintro e w12 ⟨rfl, rfl⟩
  go_wp2_with fail
  refine (fails_any _ 2 true _ (row_c Rk_11.out (i := 0) rfl) rfl).mono ?_
  rintro e w13 ⟨rfl, rfl⟩
  have fk0 := row_c (i := 0) Rk_11.out rfl
  have zk0 := frozen_of_row _ _ 0 _ _ Rk_11.out
  have xk := heap_lt Rk_11.out
  have fr0 := row_c (i := 0) Rr_11.out rfl
  have zr0 := frozen_of_row _ _ 0 _ _ Rr_11.out
  have fr1 := row_c (i := 1) Rr_11.out rfl
  have zr1 := frozen_of_row _ _ 1 _ _ Rr_11.out
  have fr2 := row_c (i := 2) Rr_11.out rfl
  have zr2 := frozen_of_row _ _ 2 _ _ Rr_11.out
  have xr := heap_lt Rr_11.out
  go_wp2_with fail
  go_region
  go_wp2
  clear fk0 zk0 xk fr0 zr0 fr1 zr1 fr2 zr2 xr
  obtain ⟨w14, hW⟩ : ∃ W : World, W = (((w11.setCell ⟨w.heap.size, 0, none⟩ (.bool false)).setCell ⟨w.heap.size, 1, none⟩ (.slice none 0 0)).setCell ⟨w.heap.size, 2, none⟩ (.int .i64 0)) := ⟨_, rfl⟩
  rw [← hW]
  have hO : Only (w.heap.size) w11 w14 := by rw [hW]; exact ((((Only.refl (w.heap.size) w11).setCell 0 _).setCell 1 _).setCell 2 _)
  have L14 := qH (live_only L11.out hO Rr_11.out noint_dy Gr)
  have Rk_14 := qH ((hO.block _ (by omega)).trans Rk_11.out)
  have Ra_14 := qH ((hO.block _ (by omega)).trans Ra_11.out)
  have Rc_14 := qH ((hO.block _ (by omega)).trans Rc_11.out)
  have Rr_14 := qH (show w14.heap[w.heap.size]? = some (.cells #[.bool false, .slice none 0 0, .int .i64 0] 26 (0, 0)) by rw [hW]; exact (heap_setCell_same _ _ 2 _ _ _ (heap_setCell_same _ _ 1 _ _ _ (heap_setCell_same _ _ 0 _ _ _ Rr_11.out))))
  clear hW hO
  obtain ⟨w15, hW⟩ : ∃ W : World, W = w14.drew := ⟨_, rfl⟩
  rw [← hW]
  have hb : Below w14.heap.size w14 w15 := by rw [hW]; exact bd0 _
  have L15 := qH (L14.out.step hb)
  have Rr_15 := qH (cells_of Rr_14.out hb)
  have Rk_15 := qH (cells_of Rk_14.out hb)
  have Ra_15 := qH (cells_of Ra_14.out hb)
  have Rc_15 := qH (cells_of Rc_14.out hb)
  clear hW hb
  have fr0 := row_c (i := 0) Rr_15.out rfl
  have zr0 := frozen_of_row _ _ 0 _ _ Rr_15.out
  have fr1 := row_c (i := 1) Rr_15.out rfl
  have zr1 := frozen_of_row _ _ 1 _ _ Rr_15.out
  have fr2 := row_c (i := 2) Rr_15.out rfl
  have zr2 := frozen_of_row _ _ 2 _ _ Rr_15.out
  have xr := heap_lt Rr_15.out
  refine bodyPost_ret (v := .tuple #[.agg #[.bool false, .slice none 0 0, .int .i64 0], .string ⟨#[]⟩, .int .i64 2]) (by simp [results, Tryz.results73, go_sem, fr0, fr1, fr2]) rfl ?_
  exact ⟨rfl, L15.out.1⟩
theorem dtk_d (b t1 t2 : ByteArray) (m n q : Int) (bI : Bool) (w : World) (T1 : ∀ W, Calls Tryz.prog 96 #[.string b] W fun e w' => Zt m t1 0 W e w') (T2 : ∀ W, Calls Tryz.prog 96 #[.string t1] W fun e w' => Zt n t2 2 W e w') (hl : (digs m.natAbs).length ≤ 400) (hn : (digs n.natAbs).length ≤ 400) (hq : smallz n = q) (hok : smallb n = true) (hR : dyR (decide (m < 0)) (digs m.natAbs) q = true) (hI : inR m q = bI):
    Calls Tryz.prog 73 #[.string b] w fun e w' => e = .returned (.tuple #[.agg #[.bool false, .slice none 0 0, .int .i64 0], .string ⟨#[]⟩, .int .i64 2]) ∧ Below w.heap.size w w' := by
  have HT1 := qH T1
  have HT2 := qH T2
  have lx := qH hl
  have ly := qH hn
  have SM := qH (fun W A c hW => zsm_yes (A := A) (c := c) (Nat.le_trans hn (by omega)) hq hok W hW)
  have HR := qH hR
  have HI := qH hI
  have L0 := qH (live_start w)
  clear T1 T2 hl hn hq hok hR hI
  go_enter Tryz.func73, Tryz.ntmps73
  go_wp2_with fail
  obtain ⟨v1, hW⟩ : ∃ W : World, W = ((w.alloc (.cells #[.bool false, .slice none 0 0, .int .i64 0] 26)).alloc (.cells #[.int .i64 0] 103)) := ⟨_, rfl⟩
  rw [← hW]
  have hb : Below w.heap.size w v1 := by rw [hW]; exact (((Below.refl _ _).alloc (by simp <;> omega) _).alloc (by simp <;> omega) _)
  have L1 := qH (L0.out.step hb)
  have Rr_1 := qH (show v1.heap[w.heap.size]? = some (.cells #[.bool false, .slice none 0 0, .int .i64 0] 26 (0, 0)) by rw [hW]; have := heap_alloc_new w (.cells #[.bool false, .slice none 0 0, .int .i64 0] 26); rw [heap_alloc_old _ _ (by simp <;> omega)]; simpa using this)
  have Gr : w.heap.size ≤ w.heap.size := by have := L0.out.1.size; omega
  have Rk_1 := qH (show v1.heap[w.heap.size + 1]? = some (.cells #[.int .i64 0] 103 (0, 0)) by rw [hW]; have := heap_alloc_new (w.alloc (.cells #[.bool false, .slice none 0 0, .int .i64 0] 26)) (.cells #[.int .i64 0] 103); simpa using this)
  have Gk : w.heap.size ≤ w.heap.size + 1 := by have := L0.out.1.size; omega
  have Nrk : w.heap.size < w.heap.size + 1 := by omega
  clear hW hb
  refine (HT1.out _).mono ?_
  rintro e w2 ⟨A2, c2, rfl, hd, hb⟩
  have L2 := qH ((L1.out.step hb).add hd)
  have Rr_2 := qH (cells_of Rr_1.out hb)
  have Rk_2 := qH (cells_of Rk_1.out hb)
  clear hb hd
  go_wp2_with fail
  obtain ⟨w3, hW⟩ : ∃ W : World, W = (w2.alloc (.cells #[.bool (decide (m < 0)), .slice A2 (digs m.natAbs).length c2] 24)) := ⟨_, rfl⟩
  rw [← hW]
  have hb : Below w2.heap.size w2 w3 := by rw [hW]; exact ((Below.refl _ _).alloc (by simp <;> omega) _)
  have L3 := qH (L2.out.step hb)
  have Rr_3 := qH (cells_of Rr_2.out hb)
  have Rk_3 := qH (cells_of Rk_2.out hb)
  have Ra_3 := qH (show w3.heap[w2.heap.size]? = some (.cells #[.bool (decide (m < 0)), .slice A2 (digs m.natAbs).length c2] 24 (0, 0)) by rw [hW]; have := heap_alloc_new w2 (.cells #[.bool (decide (m < 0)), .slice A2 (digs m.natAbs).length c2] 24); simpa using this)
  have Ga : w.heap.size ≤ w2.heap.size := by have := L2.out.1.size; omega
  have Nra : w.heap.size < w2.heap.size := by have := heap_lt Rr_2.out; omega
  have Nka : w.heap.size + 1 < w2.heap.size := by have := heap_lt Rk_2.out; omega
  clear hW hb
  refine (tell_no _ 0 0 false _ (row_c Rk_3.out (i := 0) rfl) (.inl rfl)).mono ?_
  rintro e w4 ⟨rfl, rfl⟩
  go_wp2_with fail
  refine (HT2.out _).mono ?_
  rintro e w5 ⟨A5, c5, rfl, hd, hb⟩
  have L5 := qH ((L3.out.step hb).add hd)
  have Rr_5 := qH (cells_of Rr_3.out hb)
  have Rk_5 := qH (cells_of Rk_3.out hb)
  have Ra_5 := qH (cells_of Ra_3.out hb)
  clear hb hd
  go_wp2_with fail
  obtain ⟨w6, hW⟩ : ∃ W : World, W = (w5.alloc (.cells #[.bool (decide (n < 0)), .slice A5 (digs n.natAbs).length c5] 24)) := ⟨_, rfl⟩
  rw [← hW]
  have hb : Below w5.heap.size w5 w6 := by rw [hW]; exact ((Below.refl _ _).alloc (by simp <;> omega) _)
  have L6 := qH (L5.out.step hb)
  have Rr_6 := qH (cells_of Rr_5.out hb)
  have Rk_6 := qH (cells_of Rk_5.out hb)
  have Ra_6 := qH (cells_of Ra_5.out hb)
  have Rc_6 := qH (show w6.heap[w5.heap.size]? = some (.cells #[.bool (decide (n < 0)), .slice A5 (digs n.natAbs).length c5] 24 (0, 0)) by rw [hW]; have := heap_alloc_new w5 (.cells #[.bool (decide (n < 0)), .slice A5 (digs n.natAbs).length c5] 24); simpa using this)
  have Gc : w.heap.size ≤ w5.heap.size := by have := L5.out.1.size; omega
  have Nrc : w.heap.size < w5.heap.size := by have := heap_lt Rr_5.out; omega
  have Nkc : w.heap.size + 1 < w5.heap.size := by have := heap_lt Rk_5.out; omega
  have Nac : w2.heap.size < w5.heap.size := by have := heap_lt Ra_5.out; omega
  clear hW hb
  refine (tell_yes _ 2 _ (row_c Rk_6.out (i := 0) rfl) (frozen_of_row _ _ 0 _ _ Rk_6.out)).mono ?_
  rintro e w7 ⟨rfl, rfl⟩
  obtain ⟨w8, hW⟩ : ∃ W : World, W = (w6.setCell ⟨w.heap.size + 1, 0, none⟩ (.int .i64 2)) := ⟨_, rfl⟩
  rw [← hW]
  have hO : Only (w.heap.size + 1) w6 w8 := by rw [hW]; exact ((Only.refl (w.heap.size + 1) w6).setCell 0 _)
  have L8 := qH (live_only L6.out hO Rk_6.out noint_re Gk)
  have Rr_8 := qH ((hO.block _ (by omega)).trans Rr_6.out)
  have Ra_8 := qH ((hO.block _ (by omega)).trans Ra_6.out)
  have Rc_8 := qH ((hO.block _ (by omega)).trans Rc_6.out)
  have Rk_8 := qH (show w8.heap[w.heap.size + 1]? = some (.cells #[.int .i64 2] 103 (0, 0)) by rw [hW]; exact (heap_setCell_same _ _ 0 _ _ _ Rk_6.out))
  clear hW hO
  have fc0 := row_c (i := 0) Rc_8.out rfl
  have zc0 := frozen_of_row _ _ 0 _ _ Rc_8.out
  have fc1 := row_c (i := 1) Rc_8.out rfl
  have zc1 := frozen_of_row _ _ 1 _ _ Rc_8.out
  have xc := heap_lt Rc_8.out
  go_wp2_with fail
  refine (SM.out _ _ _ (L8.out.get (A := A5) (c := c5) (xs := digs n.natAbs) (by simp))).mono ?_
  rintro e w9 ⟨rfl, hb⟩
  have L9 := qH (L8.out.step hb)
  clear fc0 zc0 fc1 zc1 xc
  have Rr_9 := qH (cells_of Rr_8.out hb)
  have Rk_9 := qH (cells_of Rk_8.out hb)
  have Ra_9 := qH (cells_of Ra_8.out hb)
  have Rc_9 := qH (cells_of Rc_8.out hb)
  clear hb 
  have fa0 := row_c (i := 0) Ra_9.out rfl
  have za0 := frozen_of_row _ _ 0 _ _ Ra_9.out
  have fa1 := row_c (i := 1) Ra_9.out rfl
  have za1 := frozen_of_row _ _ 1 _ _ Ra_9.out
  have xa := heap_lt Ra_9.out
  have fr0 := row_c (i := 0) Rr_9.out rfl
  have zr0 := frozen_of_row _ _ 0 _ _ Rr_9.out
  have fr1 := row_c (i := 1) Rr_9.out rfl
  have zr1 := frozen_of_row _ _ 1 _ _ Rr_9.out
  have fr2 := row_c (i := 2) Rr_9.out rfl
  have zr2 := frozen_of_row _ _ 2 _ _ Rr_9.out
  have xr := heap_lt Rr_9.out
  go_wp2_with fail
  obtain ⟨w10, hW⟩ : ∃ W : World, W = (((w9.setCell ⟨w.heap.size, 0, none⟩ (.bool (decide (m < 0)))).setCell ⟨w.heap.size, 1, none⟩ (.slice A2 (digs m.natAbs).length c2)).setCell ⟨w.heap.size, 2, none⟩ (.int .i64 q)) := ⟨_, rfl⟩
  rw [← hW]
  have hO : Only (w.heap.size) w9 w10 := by rw [hW]; exact ((((Only.refl (w.heap.size) w9).setCell 0 _).setCell 1 _).setCell 2 _)
  have L10 := qH (live_only L9.out hO Rr_9.out noint_dy Gr)
  have Rk_10 := qH ((hO.block _ (by omega)).trans Rk_9.out)
  have Ra_10 := qH ((hO.block _ (by omega)).trans Ra_9.out)
  have Rc_10 := qH ((hO.block _ (by omega)).trans Rc_9.out)
  have Rr_10 := qH (show w10.heap[w.heap.size]? = some (.cells #[.bool (decide (m < 0)), .slice A2 (digs m.natAbs).length c2, .int .i64 q] 26 (0, 0)) by rw [hW]; exact (heap_setCell_same _ _ 2 _ _ _ (heap_setCell_same _ _ 1 _ _ _ (heap_setCell_same _ _ 0 _ _ _ Rr_9.out))))
  clear hW hO
  clear fa0 za0 fa1 za1 xa fr0 zr0 fr1 zr1 fr2 zr2 xr
  have fr0 := row_c (i := 0) Rr_10.out rfl
  have zr0 := frozen_of_row _ _ 0 _ _ Rr_10.out
  have fr1 := row_c (i := 1) Rr_10.out rfl
  have zr1 := frozen_of_row _ _ 1 _ _ Rr_10.out
  have fr2 := row_c (i := 2) Rr_10.out rfl
  have zr2 := frozen_of_row _ _ 2 _ _ Rr_10.out
  have xr := heap_lt Rr_10.out
  go_wp2_with fail
  refine (dright_any A2 c2 (decide (m < 0)) (digs m.natAbs) q _ (L10.out.get (A := A2) (c := c2) (xs := digs m.natAbs) (by simp)) true HR.out (Nat.le_trans lx.out (by omega))).mono ?_
  rintro e w11 ⟨rfl, hb⟩
  have L11 := qH (L10.out.step hb)
  clear fr0 zr0 fr1 zr1 fr2 zr2 xr
  have Rr_11 := qH (cells_of Rr_10.out hb)
  have Rk_11 := qH (cells_of Rk_10.out hb)
  have Ra_11 := qH (cells_of Ra_10.out hb)
  have Rc_11 := qH (cells_of Rc_10.out hb)
  clear hb 
  have fr0 := row_c (i := 0) Rr_11.out rfl
  have zr0 := frozen_of_row _ _ 0 _ _ Rr_11.out
  have fr1 := row_c (i := 1) Rr_11.out rfl
  have zr1 := frozen_of_row _ _ 1 _ _ Rr_11.out
  have fr2 := row_c (i := 2) Rr_11.out rfl
  have zr2 := frozen_of_row _ _ 2 _ _ Rr_11.out
  have xr := heap_lt Rr_11.out
  go_wp2_with fail
  refine (inRange_any A2 c2 (decide (m < 0)) m q _ (L11.out.get (A := A2) (c := c2) (xs := digs m.natAbs) (by simp)) bI HI.out (Nat.le_trans lx.out (by omega))).mono ?_
  rintro e w12 ⟨rfl, hb⟩
  have L12 := qH (L11.out.step hb)
  clear fr0 zr0 fr1 zr1 fr2 zr2 xr
  have Rr_12 := qH (cells_of Rr_11.out hb)
  have Rk_12 := qH (cells_of Rk_11.out hb)
  have Ra_12 := qH (cells_of Ra_11.out hb)
  have Rc_12 := qH (cells_of Rc_11.out hb)
  clear hb 
  go_wp2_with fail
  refine (tell_no _ 2 2 (!bI) _ (row_c Rk_12.out (i := 0) rfl) (.inr rfl)).mono ?_
  rintro e w13 ⟨rfl, rfl⟩
  go_wp2_with fail
  refine (fails_any _ 2 true _ (row_c Rk_12.out (i := 0) rfl) rfl).mono ?_
  rintro e w14 ⟨rfl, rfl⟩
  have fk0 := row_c (i := 0) Rk_12.out rfl
  have zk0 := frozen_of_row _ _ 0 _ _ Rk_12.out
  have xk := heap_lt Rk_12.out
  have fr0 := row_c (i := 0) Rr_12.out rfl
  have zr0 := frozen_of_row _ _ 0 _ _ Rr_12.out
  have fr1 := row_c (i := 1) Rr_12.out rfl
  have zr1 := frozen_of_row _ _ 1 _ _ Rr_12.out
  have fr2 := row_c (i := 2) Rr_12.out rfl
  have zr2 := frozen_of_row _ _ 2 _ _ Rr_12.out
  have xr := heap_lt Rr_12.out
  go_wp2_with fail
  go_region
  go_wp2
  clear fk0 zk0 xk fr0 zr0 fr1 zr1 fr2 zr2 xr
  obtain ⟨w15, hW⟩ : ∃ W : World, W = (((w12.setCell ⟨w.heap.size, 0, none⟩ (.bool false)).setCell ⟨w.heap.size, 1, none⟩ (.slice none 0 0)).setCell ⟨w.heap.size, 2, none⟩ (.int .i64 0)) := ⟨_, rfl⟩
  rw [← hW]
  have hO : Only (w.heap.size) w12 w15 := by rw [hW]; exact ((((Only.refl (w.heap.size) w12).setCell 0 _).setCell 1 _).setCell 2 _)
  have L15 := qH (live_only L12.out hO Rr_12.out noint_dy Gr)
  have Rk_15 := qH ((hO.block _ (by omega)).trans Rk_12.out)
  have Ra_15 := qH ((hO.block _ (by omega)).trans Ra_12.out)
  have Rc_15 := qH ((hO.block _ (by omega)).trans Rc_12.out)
  have Rr_15 := qH (show w15.heap[w.heap.size]? = some (.cells #[.bool false, .slice none 0 0, .int .i64 0] 26 (0, 0)) by rw [hW]; exact (heap_setCell_same _ _ 2 _ _ _ (heap_setCell_same _ _ 1 _ _ _ (heap_setCell_same _ _ 0 _ _ _ Rr_12.out))))
  clear hW hO
  obtain ⟨w16, hW⟩ : ∃ W : World, W = w15.drew := ⟨_, rfl⟩
  rw [← hW]
  have hb : Below w15.heap.size w15 w16 := by rw [hW]; exact bd0 _
  have L16 := qH (L15.out.step hb)
  have Rr_16 := qH (cells_of Rr_15.out hb)
  have Rk_16 := qH (cells_of Rk_15.out hb)
  have Ra_16 := qH (cells_of Ra_15.out hb)
  have Rc_16 := qH (cells_of Rc_15.out hb)
  clear hW hb
  have fr0 := row_c (i := 0) Rr_16.out rfl
  have zr0 := frozen_of_row _ _ 0 _ _ Rr_16.out
  have fr1 := row_c (i := 1) Rr_16.out rfl
  have zr1 := frozen_of_row _ _ 1 _ _ Rr_16.out
  have fr2 := row_c (i := 2) Rr_16.out rfl
  have zr2 := frozen_of_row _ _ 2 _ _ Rr_16.out
  have xr := heap_lt Rr_16.out
  refine bodyPost_ret (v := .tuple #[.agg #[.bool false, .slice none 0 0, .int .i64 0], .string ⟨#[]⟩, .int .i64 2]) (by simp [results, Tryz.results73, go_sem, fr0, fr1, fr2]) rfl ?_
  exact ⟨rfl, L16.out.1⟩
theorem dtk_e (b t1 t2 : ByteArray) (m n q : Int) (w : World) (T1 : ∀ W, Calls Tryz.prog 96 #[.string b] W fun e w' => Zt m t1 0 W e w') (T2 : ∀ W, Calls Tryz.prog 96 #[.string t1] W fun e w' => Zt n t2 0 W e w') (hl : (digs m.natAbs).length ≤ 400) (hn : (digs n.natAbs).length ≤ 400) (hq : smallz n = q) (hok : smallb n = false):
    Calls Tryz.prog 73 #[.string b] w fun e w' => e = .returned (.tuple #[.agg #[.bool false, .slice none 0 0, .int .i64 0], .string ⟨#[]⟩, .int .i64 2]) ∧ Below w.heap.size w w' := by
  have HT1 := qH T1
  have HT2 := qH T2
  have lx := qH hl
  have ly := qH hn
  have SM := qH (fun W A c hW => zsm_yes (A := A) (c := c) (Nat.le_trans hn (by omega)) hq hok W hW)
  have L0 := qH (live_start w)
  clear T1 T2 hl hn hq hok
  go_enter Tryz.func73, Tryz.ntmps73
  go_wp2_with fail
  obtain ⟨v1, hW⟩ : ∃ W : World, W = ((w.alloc (.cells #[.bool false, .slice none 0 0, .int .i64 0] 26)).alloc (.cells #[.int .i64 0] 103)) := ⟨_, rfl⟩
  rw [← hW]
  have hb : Below w.heap.size w v1 := by rw [hW]; exact (((Below.refl _ _).alloc (by simp <;> omega) _).alloc (by simp <;> omega) _)
  have L1 := qH (L0.out.step hb)
  have Rr_1 := qH (show v1.heap[w.heap.size]? = some (.cells #[.bool false, .slice none 0 0, .int .i64 0] 26 (0, 0)) by rw [hW]; have := heap_alloc_new w (.cells #[.bool false, .slice none 0 0, .int .i64 0] 26); rw [heap_alloc_old _ _ (by simp <;> omega)]; simpa using this)
  have Gr : w.heap.size ≤ w.heap.size := by have := L0.out.1.size; omega
  have Rk_1 := qH (show v1.heap[w.heap.size + 1]? = some (.cells #[.int .i64 0] 103 (0, 0)) by rw [hW]; have := heap_alloc_new (w.alloc (.cells #[.bool false, .slice none 0 0, .int .i64 0] 26)) (.cells #[.int .i64 0] 103); simpa using this)
  have Gk : w.heap.size ≤ w.heap.size + 1 := by have := L0.out.1.size; omega
  have Nrk : w.heap.size < w.heap.size + 1 := by omega
  clear hW hb
  refine (HT1.out _).mono ?_
  rintro e w2 ⟨A2, c2, rfl, hd, hb⟩
  have L2 := qH ((L1.out.step hb).add hd)
  have Rr_2 := qH (cells_of Rr_1.out hb)
  have Rk_2 := qH (cells_of Rk_1.out hb)
  clear hb hd
  go_wp2_with fail
  obtain ⟨w3, hW⟩ : ∃ W : World, W = (w2.alloc (.cells #[.bool (decide (m < 0)), .slice A2 (digs m.natAbs).length c2] 24)) := ⟨_, rfl⟩
  rw [← hW]
  have hb : Below w2.heap.size w2 w3 := by rw [hW]; exact ((Below.refl _ _).alloc (by simp <;> omega) _)
  have L3 := qH (L2.out.step hb)
  have Rr_3 := qH (cells_of Rr_2.out hb)
  have Rk_3 := qH (cells_of Rk_2.out hb)
  have Ra_3 := qH (show w3.heap[w2.heap.size]? = some (.cells #[.bool (decide (m < 0)), .slice A2 (digs m.natAbs).length c2] 24 (0, 0)) by rw [hW]; have := heap_alloc_new w2 (.cells #[.bool (decide (m < 0)), .slice A2 (digs m.natAbs).length c2] 24); simpa using this)
  have Ga : w.heap.size ≤ w2.heap.size := by have := L2.out.1.size; omega
  have Nra : w.heap.size < w2.heap.size := by have := heap_lt Rr_2.out; omega
  have Nka : w.heap.size + 1 < w2.heap.size := by have := heap_lt Rk_2.out; omega
  clear hW hb
  refine (tell_no _ 0 0 false _ (row_c Rk_3.out (i := 0) rfl) (.inl rfl)).mono ?_
  rintro e w4 ⟨rfl, rfl⟩
  go_wp2_with fail
  refine (HT2.out _).mono ?_
  rintro e w5 ⟨A5, c5, rfl, hd, hb⟩
  have L5 := qH ((L3.out.step hb).add hd)
  have Rr_5 := qH (cells_of Rr_3.out hb)
  have Rk_5 := qH (cells_of Rk_3.out hb)
  have Ra_5 := qH (cells_of Ra_3.out hb)
  clear hb hd
  go_wp2_with fail
  obtain ⟨w6, hW⟩ : ∃ W : World, W = (w5.alloc (.cells #[.bool (decide (n < 0)), .slice A5 (digs n.natAbs).length c5] 24)) := ⟨_, rfl⟩
  rw [← hW]
  have hb : Below w5.heap.size w5 w6 := by rw [hW]; exact ((Below.refl _ _).alloc (by simp <;> omega) _)
  have L6 := qH (L5.out.step hb)
  have Rr_6 := qH (cells_of Rr_5.out hb)
  have Rk_6 := qH (cells_of Rk_5.out hb)
  have Ra_6 := qH (cells_of Ra_5.out hb)
  have Rc_6 := qH (show w6.heap[w5.heap.size]? = some (.cells #[.bool (decide (n < 0)), .slice A5 (digs n.natAbs).length c5] 24 (0, 0)) by rw [hW]; have := heap_alloc_new w5 (.cells #[.bool (decide (n < 0)), .slice A5 (digs n.natAbs).length c5] 24); simpa using this)
  have Gc : w.heap.size ≤ w5.heap.size := by have := L5.out.1.size; omega
  have Nrc : w.heap.size < w5.heap.size := by have := heap_lt Rr_5.out; omega
  have Nkc : w.heap.size + 1 < w5.heap.size := by have := heap_lt Rk_5.out; omega
  have Nac : w2.heap.size < w5.heap.size := by have := heap_lt Ra_5.out; omega
  clear hW hb
  refine (tell_no _ 0 0 false _ (row_c Rk_6.out (i := 0) rfl) (.inl rfl)).mono ?_
  rintro e w7 ⟨rfl, rfl⟩
  have fc0 := row_c (i := 0) Rc_6.out rfl
  have zc0 := frozen_of_row _ _ 0 _ _ Rc_6.out
  have fc1 := row_c (i := 1) Rc_6.out rfl
  have zc1 := frozen_of_row _ _ 1 _ _ Rc_6.out
  have xc := heap_lt Rc_6.out
  go_wp2_with fail
  refine (SM.out _ _ _ (L6.out.get (A := A5) (c := c5) (xs := digs n.natAbs) (by simp))).mono ?_
  rintro e w8 ⟨rfl, hb⟩
  have L8 := qH (L6.out.step hb)
  clear fc0 zc0 fc1 zc1 xc
  have Rr_8 := qH (cells_of Rr_6.out hb)
  have Rk_8 := qH (cells_of Rk_6.out hb)
  have Ra_8 := qH (cells_of Ra_6.out hb)
  have Rc_8 := qH (cells_of Rc_6.out hb)
  clear hb 
  have fa0 := row_c (i := 0) Ra_8.out rfl
  have za0 := frozen_of_row _ _ 0 _ _ Ra_8.out
  have fa1 := row_c (i := 1) Ra_8.out rfl
  have za1 := frozen_of_row _ _ 1 _ _ Ra_8.out
  have xa := heap_lt Ra_8.out
  have fr0 := row_c (i := 0) Rr_8.out rfl
  have zr0 := frozen_of_row _ _ 0 _ _ Rr_8.out
  have fr1 := row_c (i := 1) Rr_8.out rfl
  have zr1 := frozen_of_row _ _ 1 _ _ Rr_8.out
  have fr2 := row_c (i := 2) Rr_8.out rfl
  have zr2 := frozen_of_row _ _ 2 _ _ Rr_8.out
  have xr := heap_lt Rr_8.out
  go_wp2_with fail
  obtain ⟨w9, hW⟩ : ∃ W : World, W = (((w8.setCell ⟨w.heap.size, 0, none⟩ (.bool (decide (m < 0)))).setCell ⟨w.heap.size, 1, none⟩ (.slice A2 (digs m.natAbs).length c2)).setCell ⟨w.heap.size, 2, none⟩ (.int .i64 q)) := ⟨_, rfl⟩
  rw [← hW]
  have hO : Only (w.heap.size) w8 w9 := by rw [hW]; exact ((((Only.refl (w.heap.size) w8).setCell 0 _).setCell 1 _).setCell 2 _)
  have L9 := qH (live_only L8.out hO Rr_8.out noint_dy Gr)
  have Rk_9 := qH ((hO.block _ (by omega)).trans Rk_8.out)
  have Ra_9 := qH ((hO.block _ (by omega)).trans Ra_8.out)
  have Rc_9 := qH ((hO.block _ (by omega)).trans Rc_8.out)
  have Rr_9 := qH (show w9.heap[w.heap.size]? = some (.cells #[.bool (decide (m < 0)), .slice A2 (digs m.natAbs).length c2, .int .i64 q] 26 (0, 0)) by rw [hW]; exact (heap_setCell_same _ _ 2 _ _ _ (heap_setCell_same _ _ 1 _ _ _ (heap_setCell_same _ _ 0 _ _ _ Rr_8.out))))
  clear hW hO
  clear fa0 za0 fa1 za1 xa fr0 zr0 fr1 zr1 fr2 zr2 xr
  go_wp2_with fail
  refine (tell_yes _ 2 _ (row_c Rk_9.out (i := 0) rfl) (frozen_of_row _ _ 0 _ _ Rk_9.out)).mono ?_
  rintro e w10 ⟨rfl, rfl⟩
  obtain ⟨w11, hW⟩ : ∃ W : World, W = (w9.setCell ⟨w.heap.size + 1, 0, none⟩ (.int .i64 2)) := ⟨_, rfl⟩
  rw [← hW]
  have hO : Only (w.heap.size + 1) w9 w11 := by rw [hW]; exact ((Only.refl (w.heap.size + 1) w9).setCell 0 _)
  have L11 := qH (live_only L9.out hO Rk_9.out noint_re Gk)
  have Rr_11 := qH ((hO.block _ (by omega)).trans Rr_9.out)
  have Ra_11 := qH ((hO.block _ (by omega)).trans Ra_9.out)
  have Rc_11 := qH ((hO.block _ (by omega)).trans Rc_9.out)
  have Rk_11 := qH (show w11.heap[w.heap.size + 1]? = some (.cells #[.int .i64 2] 103 (0, 0)) by rw [hW]; exact (heap_setCell_same _ _ 0 _ _ _ Rk_9.out))
  clear hW hO
  go_wp2_with fail
  refine (fails_any _ 2 true _ (row_c Rk_11.out (i := 0) rfl) rfl).mono ?_
  rintro e w12 ⟨rfl, rfl⟩
  have fk0 := row_c (i := 0) Rk_11.out rfl
  have zk0 := frozen_of_row _ _ 0 _ _ Rk_11.out
  have xk := heap_lt Rk_11.out
  have fr0 := row_c (i := 0) Rr_11.out rfl
  have zr0 := frozen_of_row _ _ 0 _ _ Rr_11.out
  have fr1 := row_c (i := 1) Rr_11.out rfl
  have zr1 := frozen_of_row _ _ 1 _ _ Rr_11.out
  have fr2 := row_c (i := 2) Rr_11.out rfl
  have zr2 := frozen_of_row _ _ 2 _ _ Rr_11.out
  have xr := heap_lt Rr_11.out
  go_wp2_with fail
  go_region
  go_wp2
  clear fk0 zk0 xk fr0 zr0 fr1 zr1 fr2 zr2 xr
  obtain ⟨w13, hW⟩ : ∃ W : World, W = (((w11.setCell ⟨w.heap.size, 0, none⟩ (.bool false)).setCell ⟨w.heap.size, 1, none⟩ (.slice none 0 0)).setCell ⟨w.heap.size, 2, none⟩ (.int .i64 0)) := ⟨_, rfl⟩
  rw [← hW]
  have hO : Only (w.heap.size) w11 w13 := by rw [hW]; exact ((((Only.refl (w.heap.size) w11).setCell 0 _).setCell 1 _).setCell 2 _)
  have L13 := qH (live_only L11.out hO Rr_11.out noint_dy Gr)
  have Rk_13 := qH ((hO.block _ (by omega)).trans Rk_11.out)
  have Ra_13 := qH ((hO.block _ (by omega)).trans Ra_11.out)
  have Rc_13 := qH ((hO.block _ (by omega)).trans Rc_11.out)
  have Rr_13 := qH (show w13.heap[w.heap.size]? = some (.cells #[.bool false, .slice none 0 0, .int .i64 0] 26 (0, 0)) by rw [hW]; exact (heap_setCell_same _ _ 2 _ _ _ (heap_setCell_same _ _ 1 _ _ _ (heap_setCell_same _ _ 0 _ _ _ Rr_11.out))))
  clear hW hO
  obtain ⟨w14, hW⟩ : ∃ W : World, W = w13.drew := ⟨_, rfl⟩
  rw [← hW]
  have hb : Below w13.heap.size w13 w14 := by rw [hW]; exact bd0 _
  have L14 := qH (L13.out.step hb)
  have Rr_14 := qH (cells_of Rr_13.out hb)
  have Rk_14 := qH (cells_of Rk_13.out hb)
  have Ra_14 := qH (cells_of Ra_13.out hb)
  have Rc_14 := qH (cells_of Rc_13.out hb)
  clear hW hb
  have fr0 := row_c (i := 0) Rr_14.out rfl
  have zr0 := frozen_of_row _ _ 0 _ _ Rr_14.out
  have fr1 := row_c (i := 1) Rr_14.out rfl
  have zr1 := frozen_of_row _ _ 1 _ _ Rr_14.out
  have fr2 := row_c (i := 2) Rr_14.out rfl
  have zr2 := frozen_of_row _ _ 2 _ _ Rr_14.out
  have xr := heap_lt Rr_14.out
  refine bodyPost_ret (v := .tuple #[.agg #[.bool false, .slice none 0 0, .int .i64 0], .string ⟨#[]⟩, .int .i64 2]) (by simp [results, Tryz.results73, go_sem, fr0, fr1, fr2]) rfl ?_
  exact ⟨rfl, L14.out.1⟩
theorem dtk_f (b t1 t2 : ByteArray) (m n q : Int) (w : World) (T1 : ∀ W, Calls Tryz.prog 96 #[.string b] W fun e w' => Zt m t1 0 W e w') (T2 : ∀ W, Calls Tryz.prog 96 #[.string t1] W fun e w' => Zt n t2 0 W e w') (hl : (digs m.natAbs).length ≤ 400) (hn : (digs n.natAbs).length ≤ 400) (hq : smallz n = q) (hok : smallb n = true) (hR : dyR (decide (m < 0)) (digs m.natAbs) q = false):
    Calls Tryz.prog 73 #[.string b] w fun e w' => e = .returned (.tuple #[.agg #[.bool false, .slice none 0 0, .int .i64 0], .string ⟨#[]⟩, .int .i64 2]) ∧ Below w.heap.size w w' := by
  have HT1 := qH T1
  have HT2 := qH T2
  have lx := qH hl
  have ly := qH hn
  have SM := qH (fun W A c hW => zsm_yes (A := A) (c := c) (Nat.le_trans hn (by omega)) hq hok W hW)
  have HR := qH hR
  have L0 := qH (live_start w)
  clear T1 T2 hl hn hq hok hR
  go_enter Tryz.func73, Tryz.ntmps73
  go_wp2_with fail
  obtain ⟨v1, hW⟩ : ∃ W : World, W = ((w.alloc (.cells #[.bool false, .slice none 0 0, .int .i64 0] 26)).alloc (.cells #[.int .i64 0] 103)) := ⟨_, rfl⟩
  rw [← hW]
  have hb : Below w.heap.size w v1 := by rw [hW]; exact (((Below.refl _ _).alloc (by simp <;> omega) _).alloc (by simp <;> omega) _)
  have L1 := qH (L0.out.step hb)
  have Rr_1 := qH (show v1.heap[w.heap.size]? = some (.cells #[.bool false, .slice none 0 0, .int .i64 0] 26 (0, 0)) by rw [hW]; have := heap_alloc_new w (.cells #[.bool false, .slice none 0 0, .int .i64 0] 26); rw [heap_alloc_old _ _ (by simp <;> omega)]; simpa using this)
  have Gr : w.heap.size ≤ w.heap.size := by have := L0.out.1.size; omega
  have Rk_1 := qH (show v1.heap[w.heap.size + 1]? = some (.cells #[.int .i64 0] 103 (0, 0)) by rw [hW]; have := heap_alloc_new (w.alloc (.cells #[.bool false, .slice none 0 0, .int .i64 0] 26)) (.cells #[.int .i64 0] 103); simpa using this)
  have Gk : w.heap.size ≤ w.heap.size + 1 := by have := L0.out.1.size; omega
  have Nrk : w.heap.size < w.heap.size + 1 := by omega
  clear hW hb
  refine (HT1.out _).mono ?_
  rintro e w2 ⟨A2, c2, rfl, hd, hb⟩
  have L2 := qH ((L1.out.step hb).add hd)
  have Rr_2 := qH (cells_of Rr_1.out hb)
  have Rk_2 := qH (cells_of Rk_1.out hb)
  clear hb hd
  go_wp2_with fail
  obtain ⟨w3, hW⟩ : ∃ W : World, W = (w2.alloc (.cells #[.bool (decide (m < 0)), .slice A2 (digs m.natAbs).length c2] 24)) := ⟨_, rfl⟩
  rw [← hW]
  have hb : Below w2.heap.size w2 w3 := by rw [hW]; exact ((Below.refl _ _).alloc (by simp <;> omega) _)
  have L3 := qH (L2.out.step hb)
  have Rr_3 := qH (cells_of Rr_2.out hb)
  have Rk_3 := qH (cells_of Rk_2.out hb)
  have Ra_3 := qH (show w3.heap[w2.heap.size]? = some (.cells #[.bool (decide (m < 0)), .slice A2 (digs m.natAbs).length c2] 24 (0, 0)) by rw [hW]; have := heap_alloc_new w2 (.cells #[.bool (decide (m < 0)), .slice A2 (digs m.natAbs).length c2] 24); simpa using this)
  have Ga : w.heap.size ≤ w2.heap.size := by have := L2.out.1.size; omega
  have Nra : w.heap.size < w2.heap.size := by have := heap_lt Rr_2.out; omega
  have Nka : w.heap.size + 1 < w2.heap.size := by have := heap_lt Rk_2.out; omega
  clear hW hb
  refine (tell_no _ 0 0 false _ (row_c Rk_3.out (i := 0) rfl) (.inl rfl)).mono ?_
  rintro e w4 ⟨rfl, rfl⟩
  go_wp2_with fail
  refine (HT2.out _).mono ?_
  rintro e w5 ⟨A5, c5, rfl, hd, hb⟩
  have L5 := qH ((L3.out.step hb).add hd)
  have Rr_5 := qH (cells_of Rr_3.out hb)
  have Rk_5 := qH (cells_of Rk_3.out hb)
  have Ra_5 := qH (cells_of Ra_3.out hb)
  clear hb hd
  go_wp2_with fail
  obtain ⟨w6, hW⟩ : ∃ W : World, W = (w5.alloc (.cells #[.bool (decide (n < 0)), .slice A5 (digs n.natAbs).length c5] 24)) := ⟨_, rfl⟩
  rw [← hW]
  have hb : Below w5.heap.size w5 w6 := by rw [hW]; exact ((Below.refl _ _).alloc (by simp <;> omega) _)
  have L6 := qH (L5.out.step hb)
  have Rr_6 := qH (cells_of Rr_5.out hb)
  have Rk_6 := qH (cells_of Rk_5.out hb)
  have Ra_6 := qH (cells_of Ra_5.out hb)
  have Rc_6 := qH (show w6.heap[w5.heap.size]? = some (.cells #[.bool (decide (n < 0)), .slice A5 (digs n.natAbs).length c5] 24 (0, 0)) by rw [hW]; have := heap_alloc_new w5 (.cells #[.bool (decide (n < 0)), .slice A5 (digs n.natAbs).length c5] 24); simpa using this)
  have Gc : w.heap.size ≤ w5.heap.size := by have := L5.out.1.size; omega
  have Nrc : w.heap.size < w5.heap.size := by have := heap_lt Rr_5.out; omega
  have Nkc : w.heap.size + 1 < w5.heap.size := by have := heap_lt Rk_5.out; omega
  have Nac : w2.heap.size < w5.heap.size := by have := heap_lt Ra_5.out; omega
  clear hW hb
  refine (tell_no _ 0 0 false _ (row_c Rk_6.out (i := 0) rfl) (.inl rfl)).mono ?_
  rintro e w7 ⟨rfl, rfl⟩
  have fc0 := row_c (i := 0) Rc_6.out rfl
  have zc0 := frozen_of_row _ _ 0 _ _ Rc_6.out
  have fc1 := row_c (i := 1) Rc_6.out rfl
  have zc1 := frozen_of_row _ _ 1 _ _ Rc_6.out
  have xc := heap_lt Rc_6.out
  go_wp2_with fail
  refine (SM.out _ _ _ (L6.out.get (A := A5) (c := c5) (xs := digs n.natAbs) (by simp))).mono ?_
  rintro e w8 ⟨rfl, hb⟩
  have L8 := qH (L6.out.step hb)
  clear fc0 zc0 fc1 zc1 xc
  have Rr_8 := qH (cells_of Rr_6.out hb)
  have Rk_8 := qH (cells_of Rk_6.out hb)
  have Ra_8 := qH (cells_of Ra_6.out hb)
  have Rc_8 := qH (cells_of Rc_6.out hb)
  clear hb 
  have fa0 := row_c (i := 0) Ra_8.out rfl
  have za0 := frozen_of_row _ _ 0 _ _ Ra_8.out
  have fa1 := row_c (i := 1) Ra_8.out rfl
  have za1 := frozen_of_row _ _ 1 _ _ Ra_8.out
  have xa := heap_lt Ra_8.out
  have fr0 := row_c (i := 0) Rr_8.out rfl
  have zr0 := frozen_of_row _ _ 0 _ _ Rr_8.out
  have fr1 := row_c (i := 1) Rr_8.out rfl
  have zr1 := frozen_of_row _ _ 1 _ _ Rr_8.out
  have fr2 := row_c (i := 2) Rr_8.out rfl
  have zr2 := frozen_of_row _ _ 2 _ _ Rr_8.out
  have xr := heap_lt Rr_8.out
  go_wp2_with fail
  obtain ⟨w9, hW⟩ : ∃ W : World, W = (((w8.setCell ⟨w.heap.size, 0, none⟩ (.bool (decide (m < 0)))).setCell ⟨w.heap.size, 1, none⟩ (.slice A2 (digs m.natAbs).length c2)).setCell ⟨w.heap.size, 2, none⟩ (.int .i64 q)) := ⟨_, rfl⟩
  rw [← hW]
  have hO : Only (w.heap.size) w8 w9 := by rw [hW]; exact ((((Only.refl (w.heap.size) w8).setCell 0 _).setCell 1 _).setCell 2 _)
  have L9 := qH (live_only L8.out hO Rr_8.out noint_dy Gr)
  have Rk_9 := qH ((hO.block _ (by omega)).trans Rk_8.out)
  have Ra_9 := qH ((hO.block _ (by omega)).trans Ra_8.out)
  have Rc_9 := qH ((hO.block _ (by omega)).trans Rc_8.out)
  have Rr_9 := qH (show w9.heap[w.heap.size]? = some (.cells #[.bool (decide (m < 0)), .slice A2 (digs m.natAbs).length c2, .int .i64 q] 26 (0, 0)) by rw [hW]; exact (heap_setCell_same _ _ 2 _ _ _ (heap_setCell_same _ _ 1 _ _ _ (heap_setCell_same _ _ 0 _ _ _ Rr_8.out))))
  clear hW hO
  clear fa0 za0 fa1 za1 xa fr0 zr0 fr1 zr1 fr2 zr2 xr
  have fr0 := row_c (i := 0) Rr_9.out rfl
  have zr0 := frozen_of_row _ _ 0 _ _ Rr_9.out
  have fr1 := row_c (i := 1) Rr_9.out rfl
  have zr1 := frozen_of_row _ _ 1 _ _ Rr_9.out
  have fr2 := row_c (i := 2) Rr_9.out rfl
  have zr2 := frozen_of_row _ _ 2 _ _ Rr_9.out
  have xr := heap_lt Rr_9.out
  go_wp2_with fail
  refine (dright_any A2 c2 (decide (m < 0)) (digs m.natAbs) q _ (L9.out.get (A := A2) (c := c2) (xs := digs m.natAbs) (by simp)) false HR.out (Nat.le_trans lx.out (by omega))).mono ?_
  rintro e w10 ⟨rfl, hb⟩
  have L10 := qH (L9.out.step hb)
  clear fr0 zr0 fr1 zr1 fr2 zr2 xr
  have Rr_10 := qH (cells_of Rr_9.out hb)
  have Rk_10 := qH (cells_of Rk_9.out hb)
  have Ra_10 := qH (cells_of Ra_9.out hb)
  have Rc_10 := qH (cells_of Rc_9.out hb)
  clear hb 
  go_wp2_with fail
  refine (tell_yes _ 2 _ (row_c Rk_10.out (i := 0) rfl) (frozen_of_row _ _ 0 _ _ Rk_10.out)).mono ?_
  rintro e w11 ⟨rfl, rfl⟩
  obtain ⟨w12, hW⟩ : ∃ W : World, W = (w10.setCell ⟨w.heap.size + 1, 0, none⟩ (.int .i64 2)) := ⟨_, rfl⟩
  rw [← hW]
  have hO : Only (w.heap.size + 1) w10 w12 := by rw [hW]; exact ((Only.refl (w.heap.size + 1) w10).setCell 0 _)
  have L12 := qH (live_only L10.out hO Rk_10.out noint_re Gk)
  have Rr_12 := qH ((hO.block _ (by omega)).trans Rr_10.out)
  have Ra_12 := qH ((hO.block _ (by omega)).trans Ra_10.out)
  have Rc_12 := qH ((hO.block _ (by omega)).trans Rc_10.out)
  have Rk_12 := qH (show w12.heap[w.heap.size + 1]? = some (.cells #[.int .i64 2] 103 (0, 0)) by rw [hW]; exact (heap_setCell_same _ _ 0 _ _ _ Rk_10.out))
  clear hW hO
  go_wp2_with fail
  refine (fails_any _ 2 true _ (row_c Rk_12.out (i := 0) rfl) rfl).mono ?_
  rintro e w13 ⟨rfl, rfl⟩
  have fk0 := row_c (i := 0) Rk_12.out rfl
  have zk0 := frozen_of_row _ _ 0 _ _ Rk_12.out
  have xk := heap_lt Rk_12.out
  have fr0 := row_c (i := 0) Rr_12.out rfl
  have zr0 := frozen_of_row _ _ 0 _ _ Rr_12.out
  have fr1 := row_c (i := 1) Rr_12.out rfl
  have zr1 := frozen_of_row _ _ 1 _ _ Rr_12.out
  have fr2 := row_c (i := 2) Rr_12.out rfl
  have zr2 := frozen_of_row _ _ 2 _ _ Rr_12.out
  have xr := heap_lt Rr_12.out
  go_wp2_with fail
  go_region
  go_wp2
  clear fk0 zk0 xk fr0 zr0 fr1 zr1 fr2 zr2 xr
  obtain ⟨w14, hW⟩ : ∃ W : World, W = (((w12.setCell ⟨w.heap.size, 0, none⟩ (.bool false)).setCell ⟨w.heap.size, 1, none⟩ (.slice none 0 0)).setCell ⟨w.heap.size, 2, none⟩ (.int .i64 0)) := ⟨_, rfl⟩
  rw [← hW]
  have hO : Only (w.heap.size) w12 w14 := by rw [hW]; exact ((((Only.refl (w.heap.size) w12).setCell 0 _).setCell 1 _).setCell 2 _)
  have L14 := qH (live_only L12.out hO Rr_12.out noint_dy Gr)
  have Rk_14 := qH ((hO.block _ (by omega)).trans Rk_12.out)
  have Ra_14 := qH ((hO.block _ (by omega)).trans Ra_12.out)
  have Rc_14 := qH ((hO.block _ (by omega)).trans Rc_12.out)
  have Rr_14 := qH (show w14.heap[w.heap.size]? = some (.cells #[.bool false, .slice none 0 0, .int .i64 0] 26 (0, 0)) by rw [hW]; exact (heap_setCell_same _ _ 2 _ _ _ (heap_setCell_same _ _ 1 _ _ _ (heap_setCell_same _ _ 0 _ _ _ Rr_12.out))))
  clear hW hO
  obtain ⟨w15, hW⟩ : ∃ W : World, W = w14.drew := ⟨_, rfl⟩
  rw [← hW]
  have hb : Below w14.heap.size w14 w15 := by rw [hW]; exact bd0 _
  have L15 := qH (L14.out.step hb)
  have Rr_15 := qH (cells_of Rr_14.out hb)
  have Rk_15 := qH (cells_of Rk_14.out hb)
  have Ra_15 := qH (cells_of Ra_14.out hb)
  have Rc_15 := qH (cells_of Rc_14.out hb)
  clear hW hb
  have fr0 := row_c (i := 0) Rr_15.out rfl
  have zr0 := frozen_of_row _ _ 0 _ _ Rr_15.out
  have fr1 := row_c (i := 1) Rr_15.out rfl
  have zr1 := frozen_of_row _ _ 1 _ _ Rr_15.out
  have fr2 := row_c (i := 2) Rr_15.out rfl
  have zr2 := frozen_of_row _ _ 2 _ _ Rr_15.out
  have xr := heap_lt Rr_15.out
  refine bodyPost_ret (v := .tuple #[.agg #[.bool false, .slice none 0 0, .int .i64 0], .string ⟨#[]⟩, .int .i64 2]) (by simp [results, Tryz.results73, go_sem, fr0, fr1, fr2]) rfl ?_
  exact ⟨rfl, L15.out.1⟩
theorem dtk_g (b t1 t2 : ByteArray) (m n q : Int) (w : World) (T1 : ∀ W, Calls Tryz.prog 96 #[.string b] W fun e w' => Zt m t1 0 W e w') (T2 : ∀ W, Calls Tryz.prog 96 #[.string t1] W fun e w' => Zt n t2 0 W e w') (hl : (digs m.natAbs).length ≤ 400) (hn : (digs n.natAbs).length ≤ 400) (hq : smallz n = q) (hok : smallb n = true) (hR : dyR (decide (m < 0)) (digs m.natAbs) q = true) (hI : inR m q = false):
    Calls Tryz.prog 73 #[.string b] w fun e w' => e = .returned (.tuple #[.agg #[.bool false, .slice none 0 0, .int .i64 0], .string ⟨#[]⟩, .int .i64 2]) ∧ Below w.heap.size w w' := by
  have HT1 := qH T1
  have HT2 := qH T2
  have lx := qH hl
  have ly := qH hn
  have SM := qH (fun W A c hW => zsm_yes (A := A) (c := c) (Nat.le_trans hn (by omega)) hq hok W hW)
  have HR := qH hR
  have HI := qH hI
  have L0 := qH (live_start w)
  clear T1 T2 hl hn hq hok hR hI
  go_enter Tryz.func73, Tryz.ntmps73
  go_wp2_with fail
  obtain ⟨v1, hW⟩ : ∃ W : World, W = ((w.alloc (.cells #[.bool false, .slice none 0 0, .int .i64 0] 26)).alloc (.cells #[.int .i64 0] 103)) := ⟨_, rfl⟩
  rw [← hW]
  have hb : Below w.heap.size w v1 := by rw [hW]; exact (((Below.refl _ _).alloc (by simp <;> omega) _).alloc (by simp <;> omega) _)
  have L1 := qH (L0.out.step hb)
  have Rr_1 := qH (show v1.heap[w.heap.size]? = some (.cells #[.bool false, .slice none 0 0, .int .i64 0] 26 (0, 0)) by rw [hW]; have := heap_alloc_new w (.cells #[.bool false, .slice none 0 0, .int .i64 0] 26); rw [heap_alloc_old _ _ (by simp <;> omega)]; simpa using this)
  have Gr : w.heap.size ≤ w.heap.size := by have := L0.out.1.size; omega
  have Rk_1 := qH (show v1.heap[w.heap.size + 1]? = some (.cells #[.int .i64 0] 103 (0, 0)) by rw [hW]; have := heap_alloc_new (w.alloc (.cells #[.bool false, .slice none 0 0, .int .i64 0] 26)) (.cells #[.int .i64 0] 103); simpa using this)
  have Gk : w.heap.size ≤ w.heap.size + 1 := by have := L0.out.1.size; omega
  have Nrk : w.heap.size < w.heap.size + 1 := by omega
  clear hW hb
  refine (HT1.out _).mono ?_
  rintro e w2 ⟨A2, c2, rfl, hd, hb⟩
  have L2 := qH ((L1.out.step hb).add hd)
  have Rr_2 := qH (cells_of Rr_1.out hb)
  have Rk_2 := qH (cells_of Rk_1.out hb)
  clear hb hd
  go_wp2_with fail
  obtain ⟨w3, hW⟩ : ∃ W : World, W = (w2.alloc (.cells #[.bool (decide (m < 0)), .slice A2 (digs m.natAbs).length c2] 24)) := ⟨_, rfl⟩
  rw [← hW]
  have hb : Below w2.heap.size w2 w3 := by rw [hW]; exact ((Below.refl _ _).alloc (by simp <;> omega) _)
  have L3 := qH (L2.out.step hb)
  have Rr_3 := qH (cells_of Rr_2.out hb)
  have Rk_3 := qH (cells_of Rk_2.out hb)
  have Ra_3 := qH (show w3.heap[w2.heap.size]? = some (.cells #[.bool (decide (m < 0)), .slice A2 (digs m.natAbs).length c2] 24 (0, 0)) by rw [hW]; have := heap_alloc_new w2 (.cells #[.bool (decide (m < 0)), .slice A2 (digs m.natAbs).length c2] 24); simpa using this)
  have Ga : w.heap.size ≤ w2.heap.size := by have := L2.out.1.size; omega
  have Nra : w.heap.size < w2.heap.size := by have := heap_lt Rr_2.out; omega
  have Nka : w.heap.size + 1 < w2.heap.size := by have := heap_lt Rk_2.out; omega
  clear hW hb
  refine (tell_no _ 0 0 false _ (row_c Rk_3.out (i := 0) rfl) (.inl rfl)).mono ?_
  rintro e w4 ⟨rfl, rfl⟩
  go_wp2_with fail
  refine (HT2.out _).mono ?_
  rintro e w5 ⟨A5, c5, rfl, hd, hb⟩
  have L5 := qH ((L3.out.step hb).add hd)
  have Rr_5 := qH (cells_of Rr_3.out hb)
  have Rk_5 := qH (cells_of Rk_3.out hb)
  have Ra_5 := qH (cells_of Ra_3.out hb)
  clear hb hd
  go_wp2_with fail
  obtain ⟨w6, hW⟩ : ∃ W : World, W = (w5.alloc (.cells #[.bool (decide (n < 0)), .slice A5 (digs n.natAbs).length c5] 24)) := ⟨_, rfl⟩
  rw [← hW]
  have hb : Below w5.heap.size w5 w6 := by rw [hW]; exact ((Below.refl _ _).alloc (by simp <;> omega) _)
  have L6 := qH (L5.out.step hb)
  have Rr_6 := qH (cells_of Rr_5.out hb)
  have Rk_6 := qH (cells_of Rk_5.out hb)
  have Ra_6 := qH (cells_of Ra_5.out hb)
  have Rc_6 := qH (show w6.heap[w5.heap.size]? = some (.cells #[.bool (decide (n < 0)), .slice A5 (digs n.natAbs).length c5] 24 (0, 0)) by rw [hW]; have := heap_alloc_new w5 (.cells #[.bool (decide (n < 0)), .slice A5 (digs n.natAbs).length c5] 24); simpa using this)
  have Gc : w.heap.size ≤ w5.heap.size := by have := L5.out.1.size; omega
  have Nrc : w.heap.size < w5.heap.size := by have := heap_lt Rr_5.out; omega
  have Nkc : w.heap.size + 1 < w5.heap.size := by have := heap_lt Rk_5.out; omega
  have Nac : w2.heap.size < w5.heap.size := by have := heap_lt Ra_5.out; omega
  clear hW hb
  refine (tell_no _ 0 0 false _ (row_c Rk_6.out (i := 0) rfl) (.inl rfl)).mono ?_
  rintro e w7 ⟨rfl, rfl⟩
  have fc0 := row_c (i := 0) Rc_6.out rfl
  have zc0 := frozen_of_row _ _ 0 _ _ Rc_6.out
  have fc1 := row_c (i := 1) Rc_6.out rfl
  have zc1 := frozen_of_row _ _ 1 _ _ Rc_6.out
  have xc := heap_lt Rc_6.out
  go_wp2_with fail
  refine (SM.out _ _ _ (L6.out.get (A := A5) (c := c5) (xs := digs n.natAbs) (by simp))).mono ?_
  rintro e w8 ⟨rfl, hb⟩
  have L8 := qH (L6.out.step hb)
  clear fc0 zc0 fc1 zc1 xc
  have Rr_8 := qH (cells_of Rr_6.out hb)
  have Rk_8 := qH (cells_of Rk_6.out hb)
  have Ra_8 := qH (cells_of Ra_6.out hb)
  have Rc_8 := qH (cells_of Rc_6.out hb)
  clear hb 
  have fa0 := row_c (i := 0) Ra_8.out rfl
  have za0 := frozen_of_row _ _ 0 _ _ Ra_8.out
  have fa1 := row_c (i := 1) Ra_8.out rfl
  have za1 := frozen_of_row _ _ 1 _ _ Ra_8.out
  have xa := heap_lt Ra_8.out
  have fr0 := row_c (i := 0) Rr_8.out rfl
  have zr0 := frozen_of_row _ _ 0 _ _ Rr_8.out
  have fr1 := row_c (i := 1) Rr_8.out rfl
  have zr1 := frozen_of_row _ _ 1 _ _ Rr_8.out
  have fr2 := row_c (i := 2) Rr_8.out rfl
  have zr2 := frozen_of_row _ _ 2 _ _ Rr_8.out
  have xr := heap_lt Rr_8.out
  go_wp2_with fail
  obtain ⟨w9, hW⟩ : ∃ W : World, W = (((w8.setCell ⟨w.heap.size, 0, none⟩ (.bool (decide (m < 0)))).setCell ⟨w.heap.size, 1, none⟩ (.slice A2 (digs m.natAbs).length c2)).setCell ⟨w.heap.size, 2, none⟩ (.int .i64 q)) := ⟨_, rfl⟩
  rw [← hW]
  have hO : Only (w.heap.size) w8 w9 := by rw [hW]; exact ((((Only.refl (w.heap.size) w8).setCell 0 _).setCell 1 _).setCell 2 _)
  have L9 := qH (live_only L8.out hO Rr_8.out noint_dy Gr)
  have Rk_9 := qH ((hO.block _ (by omega)).trans Rk_8.out)
  have Ra_9 := qH ((hO.block _ (by omega)).trans Ra_8.out)
  have Rc_9 := qH ((hO.block _ (by omega)).trans Rc_8.out)
  have Rr_9 := qH (show w9.heap[w.heap.size]? = some (.cells #[.bool (decide (m < 0)), .slice A2 (digs m.natAbs).length c2, .int .i64 q] 26 (0, 0)) by rw [hW]; exact (heap_setCell_same _ _ 2 _ _ _ (heap_setCell_same _ _ 1 _ _ _ (heap_setCell_same _ _ 0 _ _ _ Rr_8.out))))
  clear hW hO
  clear fa0 za0 fa1 za1 xa fr0 zr0 fr1 zr1 fr2 zr2 xr
  have fr0 := row_c (i := 0) Rr_9.out rfl
  have zr0 := frozen_of_row _ _ 0 _ _ Rr_9.out
  have fr1 := row_c (i := 1) Rr_9.out rfl
  have zr1 := frozen_of_row _ _ 1 _ _ Rr_9.out
  have fr2 := row_c (i := 2) Rr_9.out rfl
  have zr2 := frozen_of_row _ _ 2 _ _ Rr_9.out
  have xr := heap_lt Rr_9.out
  go_wp2_with fail
  refine (dright_any A2 c2 (decide (m < 0)) (digs m.natAbs) q _ (L9.out.get (A := A2) (c := c2) (xs := digs m.natAbs) (by simp)) true HR.out (Nat.le_trans lx.out (by omega))).mono ?_
  rintro e w10 ⟨rfl, hb⟩
  have L10 := qH (L9.out.step hb)
  clear fr0 zr0 fr1 zr1 fr2 zr2 xr
  have Rr_10 := qH (cells_of Rr_9.out hb)
  have Rk_10 := qH (cells_of Rk_9.out hb)
  have Ra_10 := qH (cells_of Ra_9.out hb)
  have Rc_10 := qH (cells_of Rc_9.out hb)
  clear hb 
  have fr0 := row_c (i := 0) Rr_10.out rfl
  have zr0 := frozen_of_row _ _ 0 _ _ Rr_10.out
  have fr1 := row_c (i := 1) Rr_10.out rfl
  have zr1 := frozen_of_row _ _ 1 _ _ Rr_10.out
  have fr2 := row_c (i := 2) Rr_10.out rfl
  have zr2 := frozen_of_row _ _ 2 _ _ Rr_10.out
  have xr := heap_lt Rr_10.out
  go_wp2_with fail
  refine (inRange_any A2 c2 (decide (m < 0)) m q _ (L10.out.get (A := A2) (c := c2) (xs := digs m.natAbs) (by simp)) false HI.out (Nat.le_trans lx.out (by omega))).mono ?_
  rintro e w11 ⟨rfl, hb⟩
  have L11 := qH (L10.out.step hb)
  clear fr0 zr0 fr1 zr1 fr2 zr2 xr
  have Rr_11 := qH (cells_of Rr_10.out hb)
  have Rk_11 := qH (cells_of Rk_10.out hb)
  have Ra_11 := qH (cells_of Ra_10.out hb)
  have Rc_11 := qH (cells_of Rc_10.out hb)
  clear hb 
  go_wp2_with fail
  refine (tell_yes _ 2 _ (row_c Rk_11.out (i := 0) rfl) (frozen_of_row _ _ 0 _ _ Rk_11.out)).mono ?_
  rintro e w12 ⟨rfl, rfl⟩
  obtain ⟨w13, hW⟩ : ∃ W : World, W = (w11.setCell ⟨w.heap.size + 1, 0, none⟩ (.int .i64 2)) := ⟨_, rfl⟩
  rw [← hW]
  have hO : Only (w.heap.size + 1) w11 w13 := by rw [hW]; exact ((Only.refl (w.heap.size + 1) w11).setCell 0 _)
  have L13 := qH (live_only L11.out hO Rk_11.out noint_re Gk)
  have Rr_13 := qH ((hO.block _ (by omega)).trans Rr_11.out)
  have Ra_13 := qH ((hO.block _ (by omega)).trans Ra_11.out)
  have Rc_13 := qH ((hO.block _ (by omega)).trans Rc_11.out)
  have Rk_13 := qH (show w13.heap[w.heap.size + 1]? = some (.cells #[.int .i64 2] 103 (0, 0)) by rw [hW]; exact (heap_setCell_same _ _ 0 _ _ _ Rk_11.out))
  clear hW hO
  go_wp2_with fail
  refine (fails_any _ 2 true _ (row_c Rk_13.out (i := 0) rfl) rfl).mono ?_
  rintro e w14 ⟨rfl, rfl⟩
  have fk0 := row_c (i := 0) Rk_13.out rfl
  have zk0 := frozen_of_row _ _ 0 _ _ Rk_13.out
  have xk := heap_lt Rk_13.out
  have fr0 := row_c (i := 0) Rr_13.out rfl
  have zr0 := frozen_of_row _ _ 0 _ _ Rr_13.out
  have fr1 := row_c (i := 1) Rr_13.out rfl
  have zr1 := frozen_of_row _ _ 1 _ _ Rr_13.out
  have fr2 := row_c (i := 2) Rr_13.out rfl
  have zr2 := frozen_of_row _ _ 2 _ _ Rr_13.out
  have xr := heap_lt Rr_13.out
  go_wp2_with fail
  go_region
  go_wp2
  clear fk0 zk0 xk fr0 zr0 fr1 zr1 fr2 zr2 xr
  obtain ⟨w15, hW⟩ : ∃ W : World, W = (((w13.setCell ⟨w.heap.size, 0, none⟩ (.bool false)).setCell ⟨w.heap.size, 1, none⟩ (.slice none 0 0)).setCell ⟨w.heap.size, 2, none⟩ (.int .i64 0)) := ⟨_, rfl⟩
  rw [← hW]
  have hO : Only (w.heap.size) w13 w15 := by rw [hW]; exact ((((Only.refl (w.heap.size) w13).setCell 0 _).setCell 1 _).setCell 2 _)
  have L15 := qH (live_only L13.out hO Rr_13.out noint_dy Gr)
  have Rk_15 := qH ((hO.block _ (by omega)).trans Rk_13.out)
  have Ra_15 := qH ((hO.block _ (by omega)).trans Ra_13.out)
  have Rc_15 := qH ((hO.block _ (by omega)).trans Rc_13.out)
  have Rr_15 := qH (show w15.heap[w.heap.size]? = some (.cells #[.bool false, .slice none 0 0, .int .i64 0] 26 (0, 0)) by rw [hW]; exact (heap_setCell_same _ _ 2 _ _ _ (heap_setCell_same _ _ 1 _ _ _ (heap_setCell_same _ _ 0 _ _ _ Rr_13.out))))
  clear hW hO
  obtain ⟨w16, hW⟩ : ∃ W : World, W = w15.drew := ⟨_, rfl⟩
  rw [← hW]
  have hb : Below w15.heap.size w15 w16 := by rw [hW]; exact bd0 _
  have L16 := qH (L15.out.step hb)
  have Rr_16 := qH (cells_of Rr_15.out hb)
  have Rk_16 := qH (cells_of Rk_15.out hb)
  have Ra_16 := qH (cells_of Ra_15.out hb)
  have Rc_16 := qH (cells_of Rc_15.out hb)
  clear hW hb
  have fr0 := row_c (i := 0) Rr_16.out rfl
  have zr0 := frozen_of_row _ _ 0 _ _ Rr_16.out
  have fr1 := row_c (i := 1) Rr_16.out rfl
  have zr1 := frozen_of_row _ _ 1 _ _ Rr_16.out
  have fr2 := row_c (i := 2) Rr_16.out rfl
  have zr2 := frozen_of_row _ _ 2 _ _ Rr_16.out
  have xr := heap_lt Rr_16.out
  refine bodyPost_ret (v := .tuple #[.agg #[.bool false, .slice none 0 0, .int .i64 0], .string ⟨#[]⟩, .int .i64 2]) (by simp [results, Tryz.results73, go_sem, fr0, fr1, fr2]) rfl ?_
  exact ⟨rfl, L16.out.1⟩
theorem dtk_h (b t1 t2 : ByteArray) (m n q : Int) (w : World) (T1 : ∀ W, Calls Tryz.prog 96 #[.string b] W fun e w' => Zt m t1 0 W e w') (T2 : ∀ W, Calls Tryz.prog 96 #[.string t1] W fun e w' => Zt n t2 0 W e w') (hl : (digs m.natAbs).length ≤ 400) (hn : (digs n.natAbs).length ≤ 400) (hq : smallz n = q) (hok : smallb n = true) (hR : dyR (decide (m < 0)) (digs m.natAbs) q = true) (hI : inR m q = true):
    Calls Tryz.prog 73 #[.string b] w fun e w' => ∃ A c, e = .returned (.tuple #[.agg #[.bool (decide (m < 0)), .slice A (digs m.natAbs).length c, .int .i64 q], .string t2, .int .i64 0]) ∧ Dg w' A c (digs m.natAbs) ∧ Below w.heap.size w w' := by
  have HT1 := qH T1
  have HT2 := qH T2
  have lx := qH hl
  have ly := qH hn
  have SM := qH (fun W A c hW => zsm_yes (A := A) (c := c) (Nat.le_trans hn (by omega)) hq hok W hW)
  have HR := qH hR
  have HI := qH hI
  have L0 := qH (live_start w)
  clear T1 T2 hl hn hq hok hR hI
  go_enter Tryz.func73, Tryz.ntmps73
  go_wp2_with fail
  obtain ⟨v1, hW⟩ : ∃ W : World, W = ((w.alloc (.cells #[.bool false, .slice none 0 0, .int .i64 0] 26)).alloc (.cells #[.int .i64 0] 103)) := ⟨_, rfl⟩
  rw [← hW]
  have hb : Below w.heap.size w v1 := by rw [hW]; exact (((Below.refl _ _).alloc (by simp <;> omega) _).alloc (by simp <;> omega) _)
  have L1 := qH (L0.out.step hb)
  have Rr_1 := qH (show v1.heap[w.heap.size]? = some (.cells #[.bool false, .slice none 0 0, .int .i64 0] 26 (0, 0)) by rw [hW]; have := heap_alloc_new w (.cells #[.bool false, .slice none 0 0, .int .i64 0] 26); rw [heap_alloc_old _ _ (by simp <;> omega)]; simpa using this)
  have Gr : w.heap.size ≤ w.heap.size := by have := L0.out.1.size; omega
  have Rk_1 := qH (show v1.heap[w.heap.size + 1]? = some (.cells #[.int .i64 0] 103 (0, 0)) by rw [hW]; have := heap_alloc_new (w.alloc (.cells #[.bool false, .slice none 0 0, .int .i64 0] 26)) (.cells #[.int .i64 0] 103); simpa using this)
  have Gk : w.heap.size ≤ w.heap.size + 1 := by have := L0.out.1.size; omega
  have Nrk : w.heap.size < w.heap.size + 1 := by omega
  clear hW hb
  refine (HT1.out _).mono ?_
  rintro e w2 ⟨A2, c2, rfl, hd, hb⟩
  have L2 := qH ((L1.out.step hb).add hd)
  have Rr_2 := qH (cells_of Rr_1.out hb)
  have Rk_2 := qH (cells_of Rk_1.out hb)
  clear hb hd
  go_wp2_with fail
  obtain ⟨w3, hW⟩ : ∃ W : World, W = (w2.alloc (.cells #[.bool (decide (m < 0)), .slice A2 (digs m.natAbs).length c2] 24)) := ⟨_, rfl⟩
  rw [← hW]
  have hb : Below w2.heap.size w2 w3 := by rw [hW]; exact ((Below.refl _ _).alloc (by simp <;> omega) _)
  have L3 := qH (L2.out.step hb)
  have Rr_3 := qH (cells_of Rr_2.out hb)
  have Rk_3 := qH (cells_of Rk_2.out hb)
  have Ra_3 := qH (show w3.heap[w2.heap.size]? = some (.cells #[.bool (decide (m < 0)), .slice A2 (digs m.natAbs).length c2] 24 (0, 0)) by rw [hW]; have := heap_alloc_new w2 (.cells #[.bool (decide (m < 0)), .slice A2 (digs m.natAbs).length c2] 24); simpa using this)
  have Ga : w.heap.size ≤ w2.heap.size := by have := L2.out.1.size; omega
  have Nra : w.heap.size < w2.heap.size := by have := heap_lt Rr_2.out; omega
  have Nka : w.heap.size + 1 < w2.heap.size := by have := heap_lt Rk_2.out; omega
  clear hW hb
  refine (tell_no _ 0 0 false _ (row_c Rk_3.out (i := 0) rfl) (.inl rfl)).mono ?_
  rintro e w4 ⟨rfl, rfl⟩
  go_wp2_with fail
  refine (HT2.out _).mono ?_
  rintro e w5 ⟨A5, c5, rfl, hd, hb⟩
  have L5 := qH ((L3.out.step hb).add hd)
  have Rr_5 := qH (cells_of Rr_3.out hb)
  have Rk_5 := qH (cells_of Rk_3.out hb)
  have Ra_5 := qH (cells_of Ra_3.out hb)
  clear hb hd
  go_wp2_with fail
  obtain ⟨w6, hW⟩ : ∃ W : World, W = (w5.alloc (.cells #[.bool (decide (n < 0)), .slice A5 (digs n.natAbs).length c5] 24)) := ⟨_, rfl⟩
  rw [← hW]
  have hb : Below w5.heap.size w5 w6 := by rw [hW]; exact ((Below.refl _ _).alloc (by simp <;> omega) _)
  have L6 := qH (L5.out.step hb)
  have Rr_6 := qH (cells_of Rr_5.out hb)
  have Rk_6 := qH (cells_of Rk_5.out hb)
  have Ra_6 := qH (cells_of Ra_5.out hb)
  have Rc_6 := qH (show w6.heap[w5.heap.size]? = some (.cells #[.bool (decide (n < 0)), .slice A5 (digs n.natAbs).length c5] 24 (0, 0)) by rw [hW]; have := heap_alloc_new w5 (.cells #[.bool (decide (n < 0)), .slice A5 (digs n.natAbs).length c5] 24); simpa using this)
  have Gc : w.heap.size ≤ w5.heap.size := by have := L5.out.1.size; omega
  have Nrc : w.heap.size < w5.heap.size := by have := heap_lt Rr_5.out; omega
  have Nkc : w.heap.size + 1 < w5.heap.size := by have := heap_lt Rk_5.out; omega
  have Nac : w2.heap.size < w5.heap.size := by have := heap_lt Ra_5.out; omega
  clear hW hb
  refine (tell_no _ 0 0 false _ (row_c Rk_6.out (i := 0) rfl) (.inl rfl)).mono ?_
  rintro e w7 ⟨rfl, rfl⟩
  have fc0 := row_c (i := 0) Rc_6.out rfl
  have zc0 := frozen_of_row _ _ 0 _ _ Rc_6.out
  have fc1 := row_c (i := 1) Rc_6.out rfl
  have zc1 := frozen_of_row _ _ 1 _ _ Rc_6.out
  have xc := heap_lt Rc_6.out
  go_wp2_with fail
  refine (SM.out _ _ _ (L6.out.get (A := A5) (c := c5) (xs := digs n.natAbs) (by simp))).mono ?_
  rintro e w8 ⟨rfl, hb⟩
  have L8 := qH (L6.out.step hb)
  clear fc0 zc0 fc1 zc1 xc
  have Rr_8 := qH (cells_of Rr_6.out hb)
  have Rk_8 := qH (cells_of Rk_6.out hb)
  have Ra_8 := qH (cells_of Ra_6.out hb)
  have Rc_8 := qH (cells_of Rc_6.out hb)
  clear hb 
  have fa0 := row_c (i := 0) Ra_8.out rfl
  have za0 := frozen_of_row _ _ 0 _ _ Ra_8.out
  have fa1 := row_c (i := 1) Ra_8.out rfl
  have za1 := frozen_of_row _ _ 1 _ _ Ra_8.out
  have xa := heap_lt Ra_8.out
  have fr0 := row_c (i := 0) Rr_8.out rfl
  have zr0 := frozen_of_row _ _ 0 _ _ Rr_8.out
  have fr1 := row_c (i := 1) Rr_8.out rfl
  have zr1 := frozen_of_row _ _ 1 _ _ Rr_8.out
  have fr2 := row_c (i := 2) Rr_8.out rfl
  have zr2 := frozen_of_row _ _ 2 _ _ Rr_8.out
  have xr := heap_lt Rr_8.out
  go_wp2_with fail
  obtain ⟨w9, hW⟩ : ∃ W : World, W = (((w8.setCell ⟨w.heap.size, 0, none⟩ (.bool (decide (m < 0)))).setCell ⟨w.heap.size, 1, none⟩ (.slice A2 (digs m.natAbs).length c2)).setCell ⟨w.heap.size, 2, none⟩ (.int .i64 q)) := ⟨_, rfl⟩
  rw [← hW]
  have hO : Only (w.heap.size) w8 w9 := by rw [hW]; exact ((((Only.refl (w.heap.size) w8).setCell 0 _).setCell 1 _).setCell 2 _)
  have L9 := qH (live_only L8.out hO Rr_8.out noint_dy Gr)
  have Rk_9 := qH ((hO.block _ (by omega)).trans Rk_8.out)
  have Ra_9 := qH ((hO.block _ (by omega)).trans Ra_8.out)
  have Rc_9 := qH ((hO.block _ (by omega)).trans Rc_8.out)
  have Rr_9 := qH (show w9.heap[w.heap.size]? = some (.cells #[.bool (decide (m < 0)), .slice A2 (digs m.natAbs).length c2, .int .i64 q] 26 (0, 0)) by rw [hW]; exact (heap_setCell_same _ _ 2 _ _ _ (heap_setCell_same _ _ 1 _ _ _ (heap_setCell_same _ _ 0 _ _ _ Rr_8.out))))
  clear hW hO
  clear fa0 za0 fa1 za1 xa fr0 zr0 fr1 zr1 fr2 zr2 xr
  have fr0 := row_c (i := 0) Rr_9.out rfl
  have zr0 := frozen_of_row _ _ 0 _ _ Rr_9.out
  have fr1 := row_c (i := 1) Rr_9.out rfl
  have zr1 := frozen_of_row _ _ 1 _ _ Rr_9.out
  have fr2 := row_c (i := 2) Rr_9.out rfl
  have zr2 := frozen_of_row _ _ 2 _ _ Rr_9.out
  have xr := heap_lt Rr_9.out
  go_wp2_with fail
  refine (dright_any A2 c2 (decide (m < 0)) (digs m.natAbs) q _ (L9.out.get (A := A2) (c := c2) (xs := digs m.natAbs) (by simp)) true HR.out (Nat.le_trans lx.out (by omega))).mono ?_
  rintro e w10 ⟨rfl, hb⟩
  have L10 := qH (L9.out.step hb)
  clear fr0 zr0 fr1 zr1 fr2 zr2 xr
  have Rr_10 := qH (cells_of Rr_9.out hb)
  have Rk_10 := qH (cells_of Rk_9.out hb)
  have Ra_10 := qH (cells_of Ra_9.out hb)
  have Rc_10 := qH (cells_of Rc_9.out hb)
  clear hb 
  have fr0 := row_c (i := 0) Rr_10.out rfl
  have zr0 := frozen_of_row _ _ 0 _ _ Rr_10.out
  have fr1 := row_c (i := 1) Rr_10.out rfl
  have zr1 := frozen_of_row _ _ 1 _ _ Rr_10.out
  have fr2 := row_c (i := 2) Rr_10.out rfl
  have zr2 := frozen_of_row _ _ 2 _ _ Rr_10.out
  have xr := heap_lt Rr_10.out
  go_wp2_with fail
  refine (inRange_any A2 c2 (decide (m < 0)) m q _ (L10.out.get (A := A2) (c := c2) (xs := digs m.natAbs) (by simp)) true HI.out (Nat.le_trans lx.out (by omega))).mono ?_
  rintro e w11 ⟨rfl, hb⟩
  have L11 := qH (L10.out.step hb)
  clear fr0 zr0 fr1 zr1 fr2 zr2 xr
  have Rr_11 := qH (cells_of Rr_10.out hb)
  have Rk_11 := qH (cells_of Rk_10.out hb)
  have Ra_11 := qH (cells_of Ra_10.out hb)
  have Rc_11 := qH (cells_of Rc_10.out hb)
  clear hb 
  go_wp2_with fail
  refine (tell_no _ 0 2 false _ (row_c Rk_11.out (i := 0) rfl) (.inl rfl)).mono ?_
  rintro e w12 ⟨rfl, rfl⟩
  go_wp2_with fail
  refine (fails_any _ 0 false _ (row_c Rk_11.out (i := 0) rfl) rfl).mono ?_
  rintro e w13 ⟨rfl, rfl⟩
  have fr0 := row_c (i := 0) Rr_11.out rfl
  have zr0 := frozen_of_row _ _ 0 _ _ Rr_11.out
  have fr1 := row_c (i := 1) Rr_11.out rfl
  have zr1 := frozen_of_row _ _ 1 _ _ Rr_11.out
  have fr2 := row_c (i := 2) Rr_11.out rfl
  have zr2 := frozen_of_row _ _ 2 _ _ Rr_11.out
  have xr := heap_lt Rr_11.out
  go_wp2
  obtain ⟨w14, hW⟩ : ∃ W : World, W = (((w11.setCell ⟨w.heap.size, 0, none⟩ (.bool (decide (m < 0)))).setCell ⟨w.heap.size, 1, none⟩ (.slice A2 (digs m.natAbs).length c2)).setCell ⟨w.heap.size, 2, none⟩ (.int .i64 q)) := ⟨_, rfl⟩
  rw [← hW]
  have hO : Only (w.heap.size) w11 w14 := by rw [hW]; exact ((((Only.refl (w.heap.size) w11).setCell 0 _).setCell 1 _).setCell 2 _)
  have L14 := qH (live_only L11.out hO Rr_11.out noint_dy Gr)
  have Rk_14 := qH ((hO.block _ (by omega)).trans Rk_11.out)
  have Ra_14 := qH ((hO.block _ (by omega)).trans Ra_11.out)
  have Rc_14 := qH ((hO.block _ (by omega)).trans Rc_11.out)
  have Rr_14 := qH (show w14.heap[w.heap.size]? = some (.cells #[.bool (decide (m < 0)), .slice A2 (digs m.natAbs).length c2, .int .i64 q] 26 (0, 0)) by rw [hW]; exact (heap_setCell_same _ _ 2 _ _ _ (heap_setCell_same _ _ 1 _ _ _ (heap_setCell_same _ _ 0 _ _ _ Rr_11.out))))
  clear hW hO
  clear fr0 zr0 fr1 zr1 fr2 zr2 xr
  have fr0 := row_c (i := 0) Rr_14.out rfl
  have zr0 := frozen_of_row _ _ 0 _ _ Rr_14.out
  have fr1 := row_c (i := 1) Rr_14.out rfl
  have zr1 := frozen_of_row _ _ 1 _ _ Rr_14.out
  have fr2 := row_c (i := 2) Rr_14.out rfl
  have zr2 := frozen_of_row _ _ 2 _ _ Rr_14.out
  have xr := heap_lt Rr_14.out
  refine bodyPost_ret (v := .tuple #[.agg #[.bool (decide (m < 0)), .slice A2 (digs m.natAbs).length c2, .int .i64 q], .string t2, .int .i64 0]) (by simp [results, Tryz.results73, go_sem, fr0, fr1, fr2]) rfl ?_
  exact ⟨A2, c2, rfl, L14.out.get (A := A2) (c := c2) (xs := digs m.natAbs) (by simp), L14.out.1⟩
theorem rt_of {m e : Int} (h : dyR (decide (m < 0)) (digs m.natAbs) e = true) : Rt m e := by
  unfold dyR at h
  by_cases hm : m.natAbs = 0
  · rw [hm, digs_zero] at h
    have h2 : (e == 0) = true := by simp at h; simp [h.2]
    have h3 : e = 0 := by simpa using h2
    exact ⟨.inl ⟨by omega, h3⟩, by omega, by omega⟩
  · have hl : (digs m.natAbs).length ≠ 0 := fun e => hm (digs_nil.1 e)
    rw [if_neg hl] at h
    simp only [Bool.and_eq_true, decide_eq_true_eq] at h
    obtain ⟨⟨⟨_, h2⟩, h3⟩, h4⟩ := h
    rw [digs_pos hm] at h2
    simp only [gZy, Option.getD_some] at h2
    exact ⟨.inr (by omega), h3, h4⟩
theorem smz {n : Int} (h : smallb n = true) : smallz n = n := by
  unfold smallb at h; rw [decide_eq_true_eq] at h; exact if_pos h
theorem zb_pos (m : Int) : 0 < (zb m).length := by have := zbytes_len (decide (m < 0)) (digs m.natAbs); unfold zb; omega
theorem dtake_yes {b t : ByteArray} {m x : Int} (hb : b.data.toList = zb m ++ zb x ++ t.data.toList) (hl : (digs m.natAbs).length ≤ 400) (r : Rt m x) (hI : inR m x = true) (hm : b.data.toList.length ≤ 9223372036854775807) (w : World) :
    Calls Tryz.prog 73 #[.string b] w fun e w' => ∃ A c, e = .returned (.tuple #[.agg #[.bool (decide (m < 0)), .slice A (digs m.natAbs).length c, .int .i64 x], .string t, .int .i64 0]) ∧ Dg w' A c (digs m.natAbs) ∧ Below w.heap.size w w' := by
  obtain ⟨t1, ht1⟩ : ∃ t1 : ByteArray, t1.data.toList = zb x ++ t.data.toList := ⟨⟨(zb x ++ t.data.toList).toArray⟩, rfl⟩
  have x0 := r.2.1
  have x1 := r.2.2
  have h2 : (digs x.natAbs).length ≤ 400 := Nat.le_trans (digs_small (by omega)) (by omega)
  have hb1 : b.data.toList = zb m ++ t1.data.toList := by rw [hb, ht1, List.append_assoc]
  have hm1 : t1.data.toList.length ≤ 9223372036854775807 := by rw [hb1, List.length_append] at hm; omega
  exact dtk_h b t1 t m x x w (ztk_yes hb1 hl hm) (ztk_yes ht1 h2 hm1) hl h2 (if_pos ⟨by omega, by omega⟩) (decide_eq_true ⟨by omega, by omega⟩) (dyR_num r) hI
theorem dtake_no {b : ByteArray} (h : ¬ ∃ m x t, b.data.toList = zb m ++ zb x ++ t ∧ (digs m.natAbs).length ≤ 400 ∧ Rt m x ∧ inR m x = true) (hm : b.data.toList.length ≤ 9223372036854775807) (w : World) :
    Calls Tryz.prog 73 #[.string b] w fun e w' => e = .returned (.tuple #[.agg #[.bool false, .slice none 0 0, .int .i64 0], .string ⟨#[]⟩, .int .i64 2]) ∧ Below w.heap.size w w' := by
  have hz : (digs (0 : Int).natAbs).length ≤ 400 := by show (digs 0).length ≤ 400; rw [digs_zero]; simp
  have hs0 : smallz 0 = 0 := if_pos ⟨by omega, by omega⟩
  have hb0 : smallb 0 = true := decide_eq_true ⟨by omega, by omega⟩
  by_cases h1 : ∃ m r, (digs m.natAbs).length ≤ 400 ∧ b.data.toList = zb m ++ r
  · obtain ⟨m, r, hl, hb⟩ := h1
    obtain ⟨t1, rfl⟩ : ∃ t1 : ByteArray, t1.data.toList = r := ⟨⟨r.toArray⟩, rfl⟩
    have hm1 : t1.data.toList.length ≤ 9223372036854775807 := by rw [hb, List.length_append] at hm; omega
    by_cases h2 : ∃ n s, (digs n.natAbs).length ≤ 400 ∧ t1.data.toList = zb n ++ s
    · obtain ⟨n, s, hn, hb2⟩ := h2
      obtain ⟨t2, rfl⟩ : ∃ t2 : ByteArray, t2.data.toList = s := ⟨⟨s.toArray⟩, rfl⟩
      rcases hs : smallb n with _ | _
      · exact dtk_e b t1 t2 m n _ w (ztk_yes hb hl hm) (ztk_yes hb2 hn hm1) hl hn rfl hs
      · rcases hR : dyR (decide (m < 0)) (digs m.natAbs) n with _ | _
        · exact dtk_f b t1 t2 m n n w (ztk_yes hb hl hm) (ztk_yes hb2 hn hm1) hl hn (smz hs) hs hR
        · rcases hI : inR m n with _ | _
          · exact dtk_g b t1 t2 m n n w (ztk_yes hb hl hm) (ztk_yes hb2 hn hm1) hl hn (smz hs) hs hR hI
          · exact absurd ⟨m, n, t2.data.toList, by rw [hb, hb2, List.append_assoc], hl, rt_of hR, hI⟩ h
    · rcases hR : dyR (decide (m < 0)) (digs m.natAbs) 0 with _ | _
      · exact dtk_c b t1 ⟨#[]⟩ m 0 0 w (ztk_yes hb hl hm) (ztk_no hm1 h2) hl hz hs0 hb0 hR
      · exact dtk_d b t1 ⟨#[]⟩ m 0 0 _ w (ztk_yes hb hl hm) (ztk_no hm1 h2) hl hz hs0 hb0 hR rfl
  · have hn : ¬ ∃ m r, (digs m.natAbs).length ≤ 400 ∧ (⟨#[]⟩ : ByteArray).data.toList = zb m ++ r := by
      rintro ⟨m, r, _, e⟩
      have l1 := congrArg List.length e
      have l2 := zb_pos m
      rw [List.length_append] at l1
      simp at l1; omega
    have hm0 : (⟨#[]⟩ : ByteArray).data.toList.length ≤ 9223372036854775807 := by simp
    rcases hR : dyR (decide ((0 : Int) < 0)) (digs (0 : Int).natAbs) 0 with _ | _
    · exact dtk_a b ⟨#[]⟩ ⟨#[]⟩ 0 0 0 w (ztk_no hm h1) (ztk_no hm0 hn) hz hz hs0 hb0 hR
    · exact dtk_b b ⟨#[]⟩ ⟨#[]⟩ 0 0 0 _ w (ztk_no hm h1) (ztk_no hm0 hn) hz hz hs0 hb0 hR rfl
theorem size_yes (A : Option Addr) (c : Nat) (m x : Int) (w : World) (h : Dg w A c (digs m.natAbs)) (hl : (digs m.natAbs).length ≤ 10000) (r1 : Rt m x) (m0 : m ≠ 0) {k : Int} (hk : x + bl m = k):
    Calls Tryz.prog 53 #[.agg #[.bool (decide (m < 0)), .slice A (digs m.natAbs).length c, .int .i64 x]] w fun e w' => e = .returned (.tuple #[.int .i64 k, .bool true]) ∧ Below w.heap.size w w' := by
  have lx := qH hl
  have x0 := r1.2.1
  have x1 := r1.2.2
  have D1 := qH (show decide (m = 0) = false by simp [m0])
  have DR := qH (fun W hW => dright_any A c (decide (m < 0)) (digs m.natAbs) x W hW true (dyR_num r1) (by omega))
  have b1 := bl_bd hl
  unfold bl at hk
  obtain ⟨z, hz⟩ : ∃ z : Int, (blen m.natAbs : Int) = z := ⟨_, rfl⟩
  have HZ := qH hz
  rw [hz] at hk
  have ws : IntKind.i64.wrap (x + z) = k := by rw [IntWalk.i64_in _ (by omega)]; exact hk
  have L0 := qH ((live_start w).add h)
  clear h hl r1 m0 hz hk b1
  go_enter Tryz.func53, Tryz.ntmps53
  go_wp2_with fail
  obtain ⟨v1, hW, hb, Rx_1⟩ := new1 w (.cells #[.bool (decide (m < 0)), .slice A (digs m.natAbs).length c, .int .i64 x] 26)
  rw [← hW]
  have L1 := ls L0 hb
  have Gx := gl0 L0.out
  clear hW hb
  refine (isz_d (x := x) D1.out).mono ?_
  rintro e w2 ⟨rfl, hb⟩
  have L2 := ls L1 hb
  have Rx_2 := co Rx_1 hb
  clear hb 
  obtain ⟨fx0, zx0, fx1, zx1, fx2, zx2, xx⟩ := ly3 Rx_2.out
  go_wp2_with fail
  refine (DR.out _ (L2.out.get (A := A) (c := c) (xs := digs m.natAbs) (by simp))).mono ?_
  rintro e w3 ⟨rfl, hb⟩
  have L3 := ls L2 hb
  clear fx0 zx0 fx1 zx1 fx2 zx2 xx
  have Rx_3 := co Rx_2 hb
  clear hb 
  obtain ⟨fx0, zx0, fx1, zx1, fx2, zx2, xx⟩ := ly3 Rx_3.out
  go_wp2_with fail
  clear fx0 zx0 fx1 zx1 fx2 zx2 xx
  obtain ⟨fx0, zx0, fx1, zx1, fx2, zx2, xx⟩ := ly3 Rx_3.out
  have KD := qH (bd0 w3)
  have LD := ls L3 KD.out
  go_region_held3 (fun w' => ∀ b o, b < w3.heap.size → w'.cell? ⟨b, o, none⟩ = w3.cell? ⟨b, o, none⟩)
    (first | with_reducible exact (bcell KD.out).1)
    (first
      | (go_at_call 89; (with_reducible refine (bits_b (LD.out.get (A := A) (c := c) (xs := digs m.natAbs) (by simp)) (Nat.le_trans lx.out (by omega)) HZ.out).mono ?_); rintro e w5 ⟨rfl, rfl⟩))
  rename_i hHeld
  clear hHeld
  clear fx0 zx0 fx1 zx1 fx2 zx2 xx
  clear KD LD
  obtain ⟨w6, hW⟩ : ∃ W : World, W = w3.drew := ⟨_, rfl⟩
  rw [← hW]
  have hb : Below w3.heap.size w3 w6 := by rw [hW]; exact bd0 _
  have L6 := ls L3 hb
  have Rx_6 := co Rx_3 hb
  clear hW hb
  clear ws
  go_wp2
  go_ret2
  exact ⟨rfl, L6.out.1⟩
theorem within_any (n lo hi : Int) (w : World) {q : Bool} (hq : (decide (lo ≤ n) && decide (n ≤ hi)) = q) :
    Calls Tryz.prog 26 #[.int .i64 n, .int .i64 lo, .int .i64 hi] w fun e w' => e = .returned (.bool q) ∧ w = w' := by
  obtain ⟨a, ha⟩ : ∃ a, decide (lo ≤ n) = a := ⟨_, rfl⟩
  obtain ⟨b, hb⟩ : ∃ a, decide (n ≤ hi) = a := ⟨_, rfl⟩
  rw [ha, hb] at hq
  subst hq
  cases a
  · go_enter Tryz.func26, Tryz.ntmps26
    go_wp2
    go_ret
    exact ⟨rfl, rfl⟩
  · go_enter Tryz.func26, Tryz.ntmps26
    go_wp2
    go_ret
    exact ⟨rfl, rfl⟩
theorem num_of {s : Bool} {xs : List Nat} {x : Int} (hk : ok32 xs) (h : dyR s xs x = true) : ∃ m : Int, digs m.natAbs = xs ∧ decide (m < 0) = s ∧ Rt m x := by
  have hr : rightB s xs = true := by
    unfold dyR at h
    by_cases h0 : xs.length = 0
    · rw [if_pos h0] at h
      unfold rightB
      rw [if_pos h0]
      simp at h
      simp [h.1]
    · rw [if_neg h0] at h
      simp only [Bool.and_eq_true] at h
      exact h.1.1.1
  obtain ⟨m, rfl, rfl⟩ := right_num hk hr
  exact ⟨m, rfl, rfl, rt_of h⟩
def mayB (s : Bool) (xs : List Nat) (x : Int) : Bool := dyR s xs x && decide (blen (val xs) ≤ 400)
theorem may_num {m x : Int} (r : Rt m x) : mayB (decide (m < 0)) (digs m.natAbs) x = decide (bl m ≤ 400) := by
  unfold mayB bl; rw [dyR_num r, Bool.true_and, val_digs]
theorem size_rz (A : Option Addr) (c : Nat) (s : Bool) (xs : List Nat) (x : Int) (w : World) (h : Dg w A c xs) (hl : xs.length ≤ 9223372036854775807) (h0 : xs.length = 0):
    Calls Tryz.prog 53 #[.agg #[.bool s, .slice A xs.length c, .int .i64 x]] w fun e w' => e = .returned (.tuple #[.int .i64 0, .bool false]) ∧ Below w.heap.size w w' := by
  have lx := qH hl
  have HZ := qH (show ((xs.length : Int) == 0) = true by rw [h0]; rfl)
  have L0 := qH ((live_start w).add h)
  clear h hl h0
  go_enter Tryz.func53, Tryz.ntmps53
  go_wp2_with fail
  obtain ⟨v1, hW, hb, Rx_1⟩ := new1 w (.cells #[.bool s, .slice A xs.length c, .int .i64 x] 26)
  rw [← hW]
  have L1 := ls L0 hb
  have Gx := gl0 L0.out
  clear hW hb
  refine (isZero_any A xs.length c s x _ true HZ.out).mono ?_
  rintro e w2 ⟨rfl, hb⟩
  have L2 := ls L1 hb
  have Rx_2 := co Rx_1 hb
  clear hb 
  obtain ⟨fx0, zx0, fx1, zx1, fx2, zx2, xx⟩ := ly3 Rx_2.out
  go_wp2
  go_ret2
  exact ⟨rfl, L2.out.1⟩
theorem size_rw (A : Option Addr) (c : Nat) (s : Bool) (xs : List Nat) (x : Int) (w : World) (h : Dg w A c xs) (hl : xs.length ≤ 9223372036854775807) (h0 : xs.length ≠ 0) (hq : dyR s xs x = false):
    Calls Tryz.prog 53 #[.agg #[.bool s, .slice A xs.length c, .int .i64 x]] w fun e w' => e = .returned (.tuple #[.int .i64 0, .bool false]) ∧ Below w.heap.size w w' := by
  have lx := qH hl
  have HZ := qH (show ((xs.length : Int) == 0) = false by exact beq_eq_false_iff_ne.2 (by omega))
  have HQ := qH hq
  have L0 := qH ((live_start w).add h)
  clear h hl h0 hq
  go_enter Tryz.func53, Tryz.ntmps53
  go_wp2_with fail
  obtain ⟨v1, hW, hb, Rx_1⟩ := new1 w (.cells #[.bool s, .slice A xs.length c, .int .i64 x] 26)
  rw [← hW]
  have L1 := ls L0 hb
  have Gx := gl0 L0.out
  clear hW hb
  refine (isZero_any A xs.length c s x _ false HZ.out).mono ?_
  rintro e w2 ⟨rfl, hb⟩
  have L2 := ls L1 hb
  have Rx_2 := co Rx_1 hb
  clear hb 
  obtain ⟨fx0, zx0, fx1, zx1, fx2, zx2, xx⟩ := ly3 Rx_2.out
  go_wp2_with fail
  refine (dright_any A c s xs x _ (L2.out.get (A := A) (c := c) (xs := xs) (by simp)) false HQ.out lx.out).mono ?_
  rintro e w3 ⟨rfl, hb⟩
  have L3 := ls L2 hb
  clear fx0 zx0 fx1 zx1 fx2 zx2 xx
  have Rx_3 := co Rx_2 hb
  clear hb 
  obtain ⟨fx0, zx0, fx1, zx1, fx2, zx2, xx⟩ := ly3 Rx_3.out
  go_wp2
  go_ret2
  exact ⟨rfl, L3.out.1⟩
theorem dsz_no (A : Option Addr) (c : Nat) (s : Bool) (xs : List Nat) (x : Int) (w : World) (h : Dg w A c xs) (hl : xs.length ≤ 9223372036854775807) (hq : xs.length = 0 ∨ dyR s xs x = false) :
    Calls Tryz.prog 53 #[.agg #[.bool s, .slice A xs.length c, .int .i64 x]] w fun e w' => e = .returned (.tuple #[.int .i64 0, .bool false]) ∧ Below w.heap.size w w' := by
  by_cases h0 : xs.length = 0
  · exact size_rz A c s xs x w h hl h0
  · exact size_rw A c s xs x w h hl h0 (hq.resolve_left h0)
theorem may_w (A : Option Addr) (c : Nat) (s : Bool) (xs : List Nat) (x : Int) (w : World) (h : Dg w A c xs) (hl : xs.length ≤ 9223372036854775807) (hq : dyR s xs x = false):
    Calls Tryz.prog 91 #[.agg #[.bool s, .slice A xs.length c, .int .i64 x], .int .i64 400, .int .i64 400, .int .i64 400] w fun e w' => e = .returned (.bool false) ∧ Below w.heap.size w w' := by
  have lx := qH hl
  have HQ := qH hq
  have L0 := qH ((live_start w).add h)
  clear h hl hq
  go_enter Tryz.func91, Tryz.ntmps91
  go_wp2_with fail
  obtain ⟨v1, hW, hb, Rx_1⟩ := new1 w (.cells #[.bool s, .slice A xs.length c, .int .i64 x] 26)
  rw [← hW]
  have L1 := ls L0 hb
  have Gx := gl0 L0.out
  clear hW hb
  refine (dsz_no A c s xs x _ (L1.out.get (A := A) (c := c) (xs := xs) (by simp)) lx.out (.inr HQ.out)).mono ?_
  rintro e w2 ⟨rfl, hb⟩
  have L2 := ls L1 hb
  have Rx_2 := co Rx_1 hb
  clear hb 
  obtain ⟨fx0, zx0, fx1, zx1, fx2, zx2, xx⟩ := ly3 Rx_2.out
  go_wp2_with fail
  refine (dright_any A c s xs x _ (L2.out.get (A := A) (c := c) (xs := xs) (by simp)) false HQ.out lx.out).mono ?_
  rintro e w3 ⟨rfl, hb⟩
  have L3 := ls L2 hb
  clear fx0 zx0 fx1 zx1 fx2 zx2 xx
  have Rx_3 := co Rx_2 hb
  clear hb 
  obtain ⟨fx0, zx0, fx1, zx1, fx2, zx2, xx⟩ := ly3 Rx_3.out
  go_wp2
  go_ret
  exact ⟨rfl, L3.out.1⟩
theorem may_z (A : Option Addr) (c : Nat) (m x : Int) (w : World) (h : Dg w A c (digs m.natAbs)) (hl : (digs m.natAbs).length ≤ 10000) (r1 : Rt m x) (m0 : m = 0):
    Calls Tryz.prog 91 #[.agg #[.bool (decide (m < 0)), .slice A (digs m.natAbs).length c, .int .i64 x], .int .i64 400, .int .i64 400, .int .i64 400] w fun e w' => e = .returned (.bool true) ∧ Below w.heap.size w w' := by
  have lx := qH hl
  have HR := qH (dyR_num r1)
  have HR1 := qH r1
  have x0 := nf_zero r1.1 m0
  have HZL := qH (show (digs m.natAbs).length = 0 by rw [m0, show digs (0 : Int).natAbs = [] from digs_zero]; rfl)
  subst x0
  have L0 := qH ((live_start w).add h)
  clear h hl r1 m0
  go_enter Tryz.func91, Tryz.ntmps91
  go_wp2_with fail
  obtain ⟨v1, hW, hb, Rx_1⟩ := new1 w (.cells #[.bool (decide (m < 0)), .slice A (digs m.natAbs).length c, .int .i64 ((0 : Int))] 26)
  rw [← hW]
  have L1 := ls L0 hb
  have Gx := gl0 L0.out
  clear hW hb
  refine (dsz_no A c _ _ _ _ (L1.out.get (A := A) (c := c) (xs := digs m.natAbs) (by simp)) (Nat.le_trans lx.out (by omega)) (.inl HZL.out)).mono ?_
  rintro e w2 ⟨rfl, hb⟩
  have L2 := ls L1 hb
  have Rx_2 := co Rx_1 hb
  clear hb 
  obtain ⟨fx0, zx0, fx1, zx1, fx2, zx2, xx⟩ := ly3 Rx_2.out
  go_wp2_with fail
  refine (dright_any A c _ _ _ _ (L2.out.get (A := A) (c := c) (xs := digs m.natAbs) (by simp)) true HR.out (Nat.le_trans lx.out (by omega))).mono ?_
  rintro e w3 ⟨rfl, hb⟩
  have L3 := ls L2 hb
  clear fx0 zx0 fx1 zx1 fx2 zx2 xx
  have Rx_3 := co Rx_2 hb
  clear hb 
  obtain ⟨fx0, zx0, fx1, zx1, fx2, zx2, xx⟩ := ly3 Rx_3.out
  go_wp2
  go_ret
  exact ⟨rfl, L3.out.1⟩
theorem may_y (A : Option Addr) (c : Nat) (m x : Int) (w : World) (h : Dg w A c (digs m.natAbs)) (hl : (digs m.natAbs).length ≤ 10000) (r1 : Rt m x) (m0 : m ≠ 0) {q : Bool} (hq : decide (bl m ≤ 400) = q):
    Calls Tryz.prog 91 #[.agg #[.bool (decide (m < 0)), .slice A (digs m.natAbs).length c, .int .i64 x], .int .i64 400, .int .i64 400, .int .i64 400] w fun e w' => e = .returned (.bool q) ∧ Below w.heap.size w w' := by
  have lx := qH hl
  have HR := qH (dyR_num r1)
  have HR1 := qH r1
  have x0 := r1.2.1
  have x1 := r1.2.2
  have b1 := bl_bd hl
  obtain ⟨k, hk⟩ : ∃ k : Int, x + bl m = k := ⟨_, rfl⟩
  have HK := qH hk
  have HM0 := qH m0
  have ws : IntKind.i64.wrap (k - x) = k - x := by rw [IntWalk.i64_in _ (by unfold bl at hk; omega)]
  have hd : decide (k - x ≤ 400) = q := by rw [← hq, decide_eq_decide]; omega
  have z0 : -1000000 ≤ k := by unfold bl at hk; omega
  have z1 : k ≤ 1000000 := by unfold bl at hk; omega
  have L0 := qH ((live_start w).add h)
  clear h hl r1 m0 hk b1 hq
  go_enter Tryz.func91, Tryz.ntmps91
  go_wp2_with fail
  obtain ⟨v1, hW, hb, Rx_1⟩ := new1 w (.cells #[.bool (decide (m < 0)), .slice A (digs m.natAbs).length c, .int .i64 x] 26)
  rw [← hW]
  have L1 := ls L0 hb
  have Gx := gl0 L0.out
  clear hW hb
  refine (size_yes A c m x _ (L1.out.get (A := A) (c := c) (xs := digs m.natAbs) (by simp)) lx.out HR1.out HM0.out HK.out).mono ?_
  rintro e w2 ⟨rfl, hb⟩
  have L2 := ls L1 hb
  have Rx_2 := co Rx_1 hb
  clear hb 
  obtain ⟨fx0, zx0, fx1, zx1, fx2, zx2, xx⟩ := ly3 Rx_2.out
  go_wp2_with fail
  refine (dright_any A c _ _ _ _ (L2.out.get (A := A) (c := c) (xs := digs m.natAbs) (by simp)) true HR.out (Nat.le_trans lx.out (by omega))).mono ?_
  rintro e w3 ⟨rfl, hb⟩
  have L3 := ls L2 hb
  clear fx0 zx0 fx1 zx1 fx2 zx2 xx
  have Rx_3 := co Rx_2 hb
  clear hb 
  obtain ⟨fx0, zx0, fx1, zx1, fx2, zx2, xx⟩ := ly3 Rx_3.out
  go_wp2
  go_ret
  exact ⟨rfl, L3.out.1⟩
theorem may_any {A : Option Addr} {c : Nat} {s : Bool} {xs : List Nat} {x : Int} {q : Bool} {w : World} (h : Dg w A c xs) (hl : xs.length ≤ 10000) (hq : mayB s xs x = q) :
    Calls Tryz.prog 91 #[.agg #[.bool s, .slice A xs.length c, .int .i64 x], .int .i64 400, .int .i64 400, .int .i64 400] w fun e w' => e = .returned (.bool q) ∧ Below w.heap.size w w' := by
  cases hr : dyR s xs x
  · obtain rfl : q = false := by rw [← hq]; unfold mayB; rw [hr]; rfl
    exact may_w A c s xs x w h (by omega) hr
  · obtain ⟨m, rfl, rfl, r1⟩ := num_of h.2.1 hr
    rw [may_num r1] at hq
    by_cases m0 : m = 0
    · obtain rfl : q = true := by rw [← hq, m0, bl_zero]; rfl
      exact may_z A c m x w h hl r1 m0
    · exact may_y A c m x w h hl r1 m0 hq
theorem answer_no (g : Nat) (A : Option Addr) (c : Nat) (s : Bool) (m x : Int) (w : World) (hR : w.heap[g]? = some (.cells #[.int .i64 0] 103 (0, 0))) (h : Dg w A c (digs m.natAbs)) (hl : (digs m.natAbs).length ≤ 1000000) (hq : inR m x = false):
    Calls Tryz.prog 78 #[.pointer (some ⟨g, 0, none⟩), .agg #[.bool s, .slice A (digs m.natAbs).length c, .int .i64 x]] w fun e w' => e = .returned (.tuple #[.agg #[.bool false, .slice none 0 0, .int .i64 0], .int .i64 4]) ∧ Below g w w' := by
  have RK_0 := qH hR
  have hg := heap_lt hR
  have lx := qH hl
  have HQ := qH hq
  have L0 := qH ((live_start w).add h)
  clear h hl hq hR
  go_enter Tryz.func78, Tryz.ntmps78
  go_wp2_with fail
  obtain ⟨v1, hW, hb, Rx_1, Rr_1⟩ := new2 w (.cells #[.bool s, .slice A (digs m.natAbs).length c, .int .i64 x] 26) (.cells #[.bool false, .slice none 0 0, .int .i64 0] 26)
  rw [← hW]
  have L1 := ls L0 hb
  have Rk_1 := co RK_0 hb
  have Gx := gl0 L0.out
  have Nkx := nl0 RK_0.out
  have Gr := gl1 L0.out
  have Nkr := nl1 RK_0.out
  have Nxr : w.heap.size < w.heap.size + 1 := by omega
  clear hW hb
  obtain ⟨fx0, zx0, fx1, zx1, fx2, zx2, xx⟩ := ly3 Rx_1.out
  have KD := qH (bd0 v1)
  have xg := heap_lt Rx_1.out
  have xne : w.heap.size ≠ g := by omega
  go_region_held3 (fun w' => ∀ o, w'.cell? ⟨w.heap.size, o, none⟩ = v1.cell? ⟨w.heap.size, o, none⟩)
    (first | with_reducible exact keep_b KD.out xg | with_reducible exact keep_b K1.out xg | with_reducible exact keep_set (keep_b K1.out xg) xne)
    (first
      | (go_at_call 61; (with_reducible refine (inRange_any A c s m x _ ((L1.out.step KD.out).get (A := A) (c := c) (xs := digs m.natAbs) (by simp)) false HQ.out lx.out).mono ?_); rintro e w1 ⟨rfl, hb⟩; (have K1 := bt KD hb); clear hb)
      | (go_at_call 60; (with_reducible refine (tell_yes _ 4 _ (row_c (cells_of Rk_1.out K1.out) (i := 0) rfl) (frozen_of_row _ _ 0 _ _ (cells_of Rk_1.out K1.out))).mono ?_); rintro e w2 ⟨rfl, rfl⟩))
  rename_i hHeld
  clear hHeld
  clear fx0 zx0 fx1 zx1 fx2 zx2 xx
  have RK1 := co Rk_1 K1.out
  have Rr1 := co Rr_1 K1.out
  have LZ := ls L1 K1.out
  obtain ⟨wz, hW⟩ : ∃ W : World, W = w1.setCell ⟨g, 0, none⟩ (.int .i64 4) := ⟨_, rfl⟩
  rw [← hW]
  have hO : Only g w1 wz := by rw [hW]; exact ((Only.refl g w1).setCell 0 _)
  have HB := qH (hO.below (LZ.out.1.mono (Nat.le_of_lt hg)) (Nat.le_refl g))
  have RKz := qH (show wz.heap[g]? = some (.cells #[.int .i64 4] 103 (0, 0)) by rw [hW]; exact heap_setCell_same _ _ 0 _ _ _ RK1.out)
  have Rrz := qH ((hO.block _ (by omega)).trans Rr1.out)
  clear hW hO
  go_wp2_with fail
  refine (fails_any _ 4 true _ (row_c RKz.out (i := 0) rfl) rfl).mono ?_
  rintro e wf ⟨rfl, rfl⟩
  go_wp2_with fail
  refine (none_any _ 4 _ (row_c RKz.out (i := 0) rfl) (heap_lt RKz.out)).mono ?_
  rintro e wn ⟨rfl, hb⟩
  have HB2 := qH (HB.out.trans (hb.mono (Nat.le_of_lt (heap_lt RKz.out))))
  have Rrn := co Rrz hb
  clear hb
  have gr : g ≤ w.heap.size + 1 := by omega
  obtain ⟨fr0, zr0, fr1, zr1, fr2, zr2, xr⟩ := ly3 Rrn.out
  go_wp2
  refine bodyPost_ret (v := .tuple #[.agg #[.bool false, .slice none 0 0, .int .i64 0], .int .i64 4]) (by simp [results, Tryz.results78, go_sem, fr0, fr1, fr2]) rfl ?_
  exact ⟨rfl, ((((Only.refl _ _).setCell 0 _).setCell 1 _).setCell 2 _).below HB2.out gr⟩
end Go.Proofs.YtdmfapgclppmhaaGreatDoor
end
