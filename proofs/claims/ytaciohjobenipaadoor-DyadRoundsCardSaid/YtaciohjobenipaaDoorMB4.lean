import Derived.Test.YtaciohjobenipaaDoorMB3
import Derived.Test.YtaciohjobenipaaDoorMB1
import Derived.Test.YtaciohjobenipaaDoorMB2
import Derived.Test.YtaciohjobenipaaDoorMB0
section
/-
  ref05: up.
-/
namespace Go.Proofs.YtaciohjobenipaaDoor
open Go.RowKit
set_option linter.unusedSimpArgs false
set_option linter.unusedVariables false
theorem rshl_z {A : Option Addr} {c v n : Nat} {w : World} (h : Dg w A c (digs v)) (hl : (digs v).length ≤ 1048576) (hn : n ≤ 100000) :
    Calls Tryd.prog 101 #[.slice A (digs v).length c, .int .i64 n] w fun e w' => ∃ A' c', e = .returned (.tuple #[.slice A' (digs (v * 2 ^ n)).length c', .bool true]) ∧ Dg w' A' c' (digs (v * 2 ^ n)) ∧ Below w.heap.size w w' := by
  have := rshl_any A c (digs v) n w h hl hn
  rwa [val_digs] at this
theorem len_pow {v n k : Nat} (h : (digs v).length ≤ k) : (digs (v * 2 ^ n)).length ≤ k + n / 32 + 2 := by
  have h1 : blen v ≤ 32 * k := by
    refine blen_le ?_
    have := val_lt (ok_digs v)
    rw [val_digs] at this
    refine Nat.lt_of_lt_of_le this ?_
    rw [show (4294967296 : Nat) = 2 ^ 32 from rfl, ← Nat.pow_mul]
    exact Nat.pow_le_pow_right (by omega) (by omega)
  have h2 := len_bl ((v * 2 ^ n : Nat) : Int)
  simp only [Int.natAbs_natCast] at h2
  have h3 : bl ((v * 2 ^ n : Nat) : Int) ≤ 32 * k + n := by
    unfold bl
    simp only [Int.natAbs_natCast]
    by_cases h0 : v = 0
    · rw [h0, Nat.zero_mul, blen_zero]; omega
    · rw [blen_up h0]; omega
  omega
theorem pow_step (v d k : Nat) : v * 2 ^ d * 2 ^ k = v * 2 ^ (d + k) := by rw [Nat.mul_assoc, ← Nat.pow_add]

set_option maxHeartbeats 4000000 in
set_option maxRecDepth 100000 in
theorem r5up_any (A : Option Addr) (c : Nat) (s : Bool) (v n : Nat) (z : Int) (w : World) (h : Dg w A c (digs v)) (hl : (digs v).length ≤ 100000) (hn : n ≤ 300000) (hz : sg s (v * 2 ^ n) = z):
    Calls Tryd.prog 93 #[.agg #[.bool s, .slice A (digs v).length c], .int .i64 n] w fun e w' => Zr z w e w' := by
  have HL := Lib.hid hl
  have HZ := Lib.hid hz
  have L0 := Lib.hid ((live_start w).add h)
  clear h hl hz
  go_enter Tryd.func93, Tryd.ntmps93
  go_wp2_with fail
  obtain ⟨v1, hW, hb, Ri_1, Rr_1⟩ := new2 w (.cells #[.bool s, .slice A (digs v).length c] 24) (.cells #[.bool false, .slice none 0 0] 24)
  rw [← hW]
  have L1 := ls L0 hb
  have Gi := gl0 L0.out
  have Gr := gl1 L0.out
  have Nir : w.heap.size < w.heap.size + 1 := by omega
  clear hW hb
  obtain ⟨fi0, zi0, fi1, zi1, xi⟩ := ly2 Ri_1.out
  have D0 := Lib.hid (show Dg v1 A c (digs (v * 2 ^ 0)) by rw [Nat.pow_zero, Nat.mul_one]; exact L1.out.get (A := A) (c := c) (xs := digs v) (by simp))
  have EL := Lib.hid (show (digs v).length = (digs (v * 2 ^ 0)).length by rw [Nat.pow_zero, Nat.mul_one])
  go_loopw [1, 5, 6] (fun nv mv kv wr => ∃ (d : Nat) (A1 : Option Addr) (c1 : Nat), d ≤ n ∧ nv = .int .i64 ((n : Int) - (d : Int)) ∧ mv = .slice A1 (digs (v * 2 ^ d)).length c1 ∧ Dg wr A1 c1 (digs (v * 2 ^ d)) ∧ Below v1.heap.size v1 wr) (fun nv _ _ _ => (intOf nv).toNat)
  case atStart => exact ⟨0, A, c, Nat.zero_le _, by simp, by rw [← EL.out], D0.out, Below.refl _ _⟩
  case round =>
    obtain ⟨d, A1, c1, hd, rfl, rfl, hD, hb⟩ := hrel
    have HD := Lib.hid hD
    have HB := Lib.hid hb
    clear hD hb
    obtain ⟨q, hq⟩ : ∃ q : Int, (n : Int) - (d : Int) = q := ⟨_, rfl⟩
    rw [hq]
    by_cases hlt : d < n
    · obtain ⟨k, hk⟩ : ∃ k : Nat, min (n - d) 100000 = k := ⟨_, rfl⟩
      have mk : min q 100000 = (k : Int) := by omega
      have mk2 : (if q < 100000 then q else 100000) = (k : Int) := by split <;> omega
      have mk3 : (if 100000 < q then 100000 else q) = (k : Int) := by split <;> omega
      have d1 : decide (0 < q) = true := decide_eq_true (by omega)
      have hk1 : k ≤ 100000 := by omega
      have LL := Lib.hid (show (digs (v * 2 ^ d)).length ≤ 1048576 by have := len_pow (n := d) HL.out; omega)
      have hq0 : 0 ≤ q ∧ q ≤ 300000 := by omega
      have wk : IntKind.i64.wrap (q - (k : Int)) = q - (k : Int) := IntWalk.i64_in _ (by omega)
      have HK := Lib.hid (show q = (n : Int) - (d : Int) ∧ d + k ≤ n ∧ 0 < k by omega)
      obtain ⟨q0, q1⟩ := hq0
      clear hk hq hlt hd hn
      go_wp2_with fail
      refine (rshl_z HD.out LL.out hk1).mono ?_
      rintro e w2 ⟨A2, c2, rfl, hd2, hb2⟩
      rw [pow_step] at hd2 ⊢
      have HD2 := Lib.hid hd2
      have HB2 := Lib.hid (HB.out.trans (hb2.mono HB.out.size))
      clear hd2 hb2
      go_wp2
      go_roundw
      case rel => exact ⟨d + k, A2, c2, HK.out.2.1, by rw [HK.out.1]; congr 1; all_goals omega, rfl, HD2.out, HB2.out⟩
      case measure => have := HK.out; simp [intOf]; omega
    · obtain rfl : d = n := by omega
      have d1 : decide (0 < q) = false := decide_eq_false (by omega)
      clear hq hlt hd
      have L9 := ls L1 HB.out
      have Rwi := co Ri_1 HB.out
      have Rwr := co Rr_1 HB.out
      have LL := Lib.hid (show (digs (v * 2 ^ d)).length ≤ 1000000 by have := len_pow (n := d) HL.out; omega)
      clear fi0 zi0 fi1 zi1 xi
      obtain ⟨fi0, zi0, fi1, zi1, xi⟩ := ly2 Rwi.out
      go_wp2_with fail
      refine (rmake_z (z := z) HD.out LL.out (by rw [val_digs]; exact HZ.out)).mono ?_
      rintro e w22 ⟨A22, c22, rfl, hd, hb⟩
      have L22 := la L9 hb hd
      clear fi0 zi0 fi1 zi1 xi
      have Ri_22 := co Rwi hb
      have Rr_22 := co Rwr hb
      clear hb hd
      obtain ⟨fr0, zr0, fr1, zr1, xr⟩ := ly2 Rr_22.out
      go_wp2
      refine bodyPost_ret (v := .agg #[.bool (decide (z < 0)), .slice A22 (digs z.natAbs).length c22]) (by simp [results, Tryd.results93, go_sem, fr0, fr1]) rfl ?_
      
      refine ⟨A22, c22, rfl, ?_, ?_⟩
      · exact (fin2 L22.out Rr_22.out noint_int Gr).get (A := A22) (c := c22) (xs := digs z.natAbs) (by simp)
      · exact (fin2 L22.out Rr_22.out noint_int Gr).1

theorem r5up_z {A : Option Addr} {c : Nat} {m q x e0 k : Int} {w : World} (h : Dg w A c (digs m.natAbs)) (hl : (digs m.natAbs).length ≤ 100000) (h0 : e0 ≤ x) (h1 : x - e0 ≤ 300000) (hk : x - e0 = k) (hq : upto m x e0 = q) :
    Calls Tryd.prog 93 #[.agg #[.bool (decide (m < 0)), .slice A (digs m.natAbs).length c], .int .i64 k] w fun e w' => Zr q w e w' := by
  have := r5up_any A c (decide (m < 0)) m.natAbs (x - e0).toNat q w h hl (by omega) (by
    rw [← hq]
    have h2 := upto_abs m x e0
    have h3 := upto_neg m x e0
    rw [← h2, ← h3]
    exact sg_dz' _)
  rw [show (((x - e0).toNat : Nat) : Int) = k by omega] at this
  exact this
end Go.Proofs.YtaciohjobenipaaDoor
end

section
/-
  ref05: lift.
-/
namespace Go.Proofs.YtaciohjobenipaaDoor
open Go.RowKit
set_option linter.unusedSimpArgs false
set_option linter.unusedVariables false
set_option maxHeartbeats 4000000 in
set_option maxRecDepth 100000 in
theorem r5lift_gt (A B : Option Addr) (c d : Nat) (m n x y : Int) (w : World) (h : Dg w A c (digs m.natAbs)) (h' : Dg w B d (digs n.natAbs)) (hl : (digs m.natAbs).length ≤ 10000) (hl' : (digs n.natAbs).length ≤ 10000) (x0 : -131072 ≤ x) (x1 : x ≤ 131072) (y0 : -131072 ≤ y) (y1 : y ≤ 131072) (m0 : m ≠ 0) (n0 : n ≠ 0) {p q e0 : Int} (he : min x y = e0) (hp : upto m x e0 = p) (hq : upto n y e0 = q) (hc : y < x):
    Calls Tryd.prog 53 #[.agg #[.bool (decide (m < 0)), .slice A (digs m.natAbs).length c, .int .i64 x], .agg #[.bool (decide (n < 0)), .slice B (digs n.natAbs).length d, .int .i64 y]] w fun e w' => Ybs p q e0 w e w' := by
  have t1 : ((((digs m.natAbs).length : Nat) : Int) == 0) = false := beq_eq_false_iff_ne.2 (fun e => m0 (by have := digs_nil.1 (show (digs m.natAbs).length = 0 by omega); omega))
  have t2 : ((((digs n.natAbs).length : Nat) : Int) == 0) = false := beq_eq_false_iff_ne.2 (fun e => n0 (by have := digs_nil.1 (show (digs n.natAbs).length = 0 by omega); omega))
  have d1 : decide (y < x) = true := by simp; omega
  obtain rfl : y = e0 := by omega
  obtain ⟨k, hk⟩ : ∃ k : Int, x - y = k := ⟨_, rfl⟩
  have wk : IntKind.i64.wrap (x - y) = k := by rw [IntWalk.i64_in _ (by omega)]; exact hk
  obtain rfl : n = q := by rw [← hq, upto_self]
  have HK := Lib.hid hk
  have HU := Lib.hid hp
  have lx := Lib.hid hl
  have ly := Lib.hid hl'
  have HC := Lib.hid (show y ≤ x ∧ x - y ≤ 300000 by omega)
  have L0 := Lib.hid (((live_start w).add h).add h')
  clear h h' hl hl' m0 n0 he hp hq hc hk
  go_enter Tryd.func53, Tryd.ntmps53
  go_wp2_with fail
  obtain ⟨v1, hW, hb, Rx_1, Ry_1, Ra_1, Rb_1⟩ := new4 w (.cells #[.bool (decide (m < 0)), .slice A (digs m.natAbs).length c, .int .i64 x] 26) (.cells #[.bool (decide (n < 0)), .slice B (digs n.natAbs).length d, .int .i64 y] 26) (.cells #[.bool false, .slice none 0 0] 24) (.cells #[.bool false, .slice none 0 0] 24)
  rw [← hW]
  have L1 := ls L0 hb
  have Gx := gl0 L0.out
  have Gy := gl1 L0.out
  have Nxy : w.heap.size < w.heap.size + 1 := by omega
  have Ga := gl2 L0.out
  have Nxa : w.heap.size < w.heap.size + 1 + 1 := by omega
  have Nya : w.heap.size + 1 < w.heap.size + 1 + 1 := by omega
  have Gb := gl3 L0.out
  have Nxb : w.heap.size < w.heap.size + 1 + 1 + 1 := by omega
  have Nyb : w.heap.size + 1 < w.heap.size + 1 + 1 + 1 := by omega
  have Nab : w.heap.size + 1 + 1 < w.heap.size + 1 + 1 + 1 := by omega
  clear hW hb
  obtain ⟨fx0, zx0, fx1, zx1, fx2, zx2, xx⟩ := ly3 Rx_1.out
  obtain ⟨fy0, zy0, fy1, zy1, fy2, zy2, xy⟩ := ly3 Ry_1.out
  go_upto_region 6 with fail
  clear fx0 zx0 fx1 zx1 fx2 zx2 xx fy0 zy0 fy1 zy1 fy2 zy2 xy
  obtain ⟨fx0, zx0, fx1, zx1, fx2, zx2, xx⟩ := ly3 Rx_1.out
  obtain ⟨fy0, zy0, fy1, zy1, fy2, zy2, xy⟩ := ly3 Ry_1.out
  have KD := Lib.hid (bd0 v1)
  have LD := ls L1 KD.out
  have Mxa : w.heap.size ≠ w.heap.size + 1 + 1 := by omega
  have Mxb : w.heap.size ≠ w.heap.size + 1 + 1 + 1 := by omega
  have Mya : w.heap.size + 1 ≠ w.heap.size + 1 + 1 := by omega
  have Myb : w.heap.size + 1 ≠ w.heap.size + 1 + 1 + 1 := by omega
  go_region_held3 (fun w' => (∀ o, w'.cell? ⟨w.heap.size, o, none⟩ = v1.cell? ⟨w.heap.size, o, none⟩) ∧ (∀ o, w'.cell? ⟨w.heap.size + 1, o, none⟩ = v1.cell? ⟨w.heap.size + 1, o, none⟩))
    (first | with_reducible exact ⟨keep_b KD.out xx, keep_b KD.out xy⟩ | with_reducible exact ⟨keep_b K3.out xx, keep_b K3.out xy⟩ | exact ⟨(keep_set (keep_b K3.out xx) Mxa), (keep_set (keep_b K3.out xy) Mya)⟩ | exact ⟨(keep_set (keep_set (keep_b K3.out xx) Mxa) Mxa), (keep_set (keep_set (keep_b K3.out xy) Mya) Mya)⟩ | exact ⟨(keep_set (keep_set (keep_set (keep_b K3.out xx) Mxa) Mxa) Mxb), (keep_set (keep_set (keep_set (keep_b K3.out xy) Mya) Mya) Myb)⟩ | exact ⟨(keep_set (keep_set (keep_set (keep_set (keep_b K3.out xx) Mxa) Mxa) Mxb) Mxb), (keep_set (keep_set (keep_set (keep_set (keep_b K3.out xy) Mya) Mya) Myb) Myb)⟩)
    (first
      | (go_at_call 93; (with_reducible refine (r5up_z (LD.out.get (A := A) (c := c) (xs := digs m.natAbs) (by simp)) (Nat.le_trans lx.out (by omega)) HC.out.1 HC.out.2 HK.out HU.out).mono ?_); rintro e w3 ⟨A3, c3, rfl, hd, hb⟩; (have K3 := bt KD hb); (have L3 := la LD hb hd); (have qa0_K3 := row_c (i := 0) (co Ra_1 K3.out).out rfl); (have pa0_K3 := frozen_of_row _ _ 0 _ _ (cells_of Ra_1.out K3.out)); (have qa1_K3 := row_c (i := 1) (co Ra_1 K3.out).out rfl); (have pa1_K3 := frozen_of_row _ _ 1 _ _ (cells_of Ra_1.out K3.out)); (have qb0_K3 := row_c (i := 0) (co Rb_1 K3.out).out rfl); (have pb0_K3 := frozen_of_row _ _ 0 _ _ (cells_of Rb_1.out K3.out)); (have qb1_K3 := row_c (i := 1) (co Rb_1 K3.out).out rfl); (have pb1_K3 := frozen_of_row _ _ 1 _ _ (cells_of Rb_1.out K3.out)); clear hb hd))
  rename_i hHeld
  clear hHeld
  clear fx0 zx0 fx1 zx1 fx2 zx2 xx fy0 zy0 fy1 zy1 fy2 zy2 xy
  have Rx_3 := co Rx_1 K3.out
  have Ry_3 := co Ry_1 K3.out
  have Ra_3 := co Ra_1 K3.out
  have Rb_3 := co Rb_1 K3.out
  clear wk
  -- the end
  obtain ⟨w4, hW⟩ : ∃ W : World, W = ((w3.setCell ⟨w.heap.size + 1 + 1, 0, none⟩ (.bool (decide (p < 0)))).setCell ⟨w.heap.size + 1 + 1, 1, none⟩ (.slice A3 (digs p.natAbs).length c3)) := ⟨_, rfl⟩
  rw [← hW]
  have hO : Only (w.heap.size + 1 + 1) w3 w4 := by rw [hW]; exact (((Only.refl (w.heap.size + 1 + 1) w3).setCell 0 _).setCell 1 _)
  have L4 := Lib.hid (live_only L3.out hO Ra_3.out noint_int Ga)
  have Rx_4 := Lib.hid ((hO.block _ (by omega)).trans Rx_3.out)
  have Ry_4 := Lib.hid ((hO.block _ (by omega)).trans Ry_3.out)
  have Rb_4 := Lib.hid ((hO.block _ (by omega)).trans Rb_3.out)
  have Ra_4 := Lib.hid (show w4.heap[w.heap.size + 1 + 1]? = some (.cells #[.bool (decide (p < 0)), .slice A3 (digs p.natAbs).length c3] 24 (0, 0)) by rw [hW]; exact (heap_setCell_same _ _ 1 _ _ _ (heap_setCell_same _ _ 0 _ _ _ Ra_3.out)))
  clear hW hO
  obtain ⟨w5, hW⟩ : ∃ W : World, W = ((w4.setCell ⟨w.heap.size + 1 + 1 + 1, 0, none⟩ (.bool (decide (n < 0)))).setCell ⟨w.heap.size + 1 + 1 + 1, 1, none⟩ (.slice B (digs n.natAbs).length d)) := ⟨_, rfl⟩
  rw [← hW]
  have hO : Only (w.heap.size + 1 + 1 + 1) w4 w5 := by rw [hW]; exact (((Only.refl (w.heap.size + 1 + 1 + 1) w4).setCell 0 _).setCell 1 _)
  have L5 := Lib.hid (live_only L4.out hO Rb_4.out noint_int Gb)
  have Rx_5 := Lib.hid ((hO.block _ (by omega)).trans Rx_4.out)
  have Ry_5 := Lib.hid ((hO.block _ (by omega)).trans Ry_4.out)
  have Ra_5 := Lib.hid ((hO.block _ (by omega)).trans Ra_4.out)
  have Rb_5 := Lib.hid (show w5.heap[w.heap.size + 1 + 1 + 1]? = some (.cells #[.bool (decide (n < 0)), .slice B (digs n.natAbs).length d] 24 (0, 0)) by rw [hW]; exact (heap_setCell_same _ _ 1 _ _ _ (heap_setCell_same _ _ 0 _ _ _ Rb_4.out)))
  clear hW hO
  obtain ⟨fa0, za0, fa1, za1, xa⟩ := ly2 Ra_5.out
  obtain ⟨fb0, zb0, fb1, zb1, xb⟩ := ly2 Rb_5.out
  go_wp2
  refine bodyPost_ret (v := .tuple #[.agg #[.bool (decide (p < 0)), .slice A3 (digs p.natAbs).length c3], .agg #[.bool (decide (n < 0)), .slice B (digs n.natAbs).length d], .int .i64 y]) (by simp [results, Tryd.results53, go_sem, fa0, fa1, fb0, fb1]) rfl ?_
  refine ⟨A3, c3, B, d, rfl, L5.out.get (A := A3) (c := c3) (xs := digs p.natAbs) (by simp), L5.out.get (A := B) (c := d) (xs := digs n.natAbs) (by simp), L5.out.1⟩

set_option maxHeartbeats 4000000 in
set_option maxRecDepth 100000 in
theorem r5lift_le (A B : Option Addr) (c d : Nat) (m n x y : Int) (w : World) (h : Dg w A c (digs m.natAbs)) (h' : Dg w B d (digs n.natAbs)) (hl : (digs m.natAbs).length ≤ 10000) (hl' : (digs n.natAbs).length ≤ 10000) (x0 : -131072 ≤ x) (x1 : x ≤ 131072) (y0 : -131072 ≤ y) (y1 : y ≤ 131072) (m0 : m ≠ 0) (n0 : n ≠ 0) {p q e0 : Int} (he : min x y = e0) (hp : upto m x e0 = p) (hq : upto n y e0 = q) (hc : x ≤ y):
    Calls Tryd.prog 53 #[.agg #[.bool (decide (m < 0)), .slice A (digs m.natAbs).length c, .int .i64 x], .agg #[.bool (decide (n < 0)), .slice B (digs n.natAbs).length d, .int .i64 y]] w fun e w' => Ybs p q e0 w e w' := by
  have t1 : ((((digs m.natAbs).length : Nat) : Int) == 0) = false := beq_eq_false_iff_ne.2 (fun e => m0 (by have := digs_nil.1 (show (digs m.natAbs).length = 0 by omega); omega))
  have t2 : ((((digs n.natAbs).length : Nat) : Int) == 0) = false := beq_eq_false_iff_ne.2 (fun e => n0 (by have := digs_nil.1 (show (digs n.natAbs).length = 0 by omega); omega))
  have d1 : decide (y < x) = false := by simp; omega
  obtain rfl : x = e0 := by omega
  obtain ⟨k, hk⟩ : ∃ k : Int, y - x = k := ⟨_, rfl⟩
  have wk : IntKind.i64.wrap (y - x) = k := by rw [IntWalk.i64_in _ (by omega)]; exact hk
  obtain rfl : m = p := by rw [← hp, upto_self]
  have HK := Lib.hid hk
  have HU := Lib.hid hq
  have lx := Lib.hid hl
  have ly := Lib.hid hl'
  have HC := Lib.hid (show x ≤ y ∧ y - x ≤ 300000 by omega)
  have L0 := Lib.hid (((live_start w).add h).add h')
  clear h h' hl hl' m0 n0 he hp hq hc hk
  go_enter Tryd.func53, Tryd.ntmps53
  go_wp2_with fail
  obtain ⟨v1, hW, hb, Rx_1, Ry_1, Ra_1, Rb_1⟩ := new4 w (.cells #[.bool (decide (m < 0)), .slice A (digs m.natAbs).length c, .int .i64 x] 26) (.cells #[.bool (decide (n < 0)), .slice B (digs n.natAbs).length d, .int .i64 y] 26) (.cells #[.bool false, .slice none 0 0] 24) (.cells #[.bool false, .slice none 0 0] 24)
  rw [← hW]
  have L1 := ls L0 hb
  have Gx := gl0 L0.out
  have Gy := gl1 L0.out
  have Nxy : w.heap.size < w.heap.size + 1 := by omega
  have Ga := gl2 L0.out
  have Nxa : w.heap.size < w.heap.size + 1 + 1 := by omega
  have Nya : w.heap.size + 1 < w.heap.size + 1 + 1 := by omega
  have Gb := gl3 L0.out
  have Nxb : w.heap.size < w.heap.size + 1 + 1 + 1 := by omega
  have Nyb : w.heap.size + 1 < w.heap.size + 1 + 1 + 1 := by omega
  have Nab : w.heap.size + 1 + 1 < w.heap.size + 1 + 1 + 1 := by omega
  clear hW hb
  obtain ⟨fx0, zx0, fx1, zx1, fx2, zx2, xx⟩ := ly3 Rx_1.out
  obtain ⟨fy0, zy0, fy1, zy1, fy2, zy2, xy⟩ := ly3 Ry_1.out
  go_upto_region 7 with fail
  clear fx0 zx0 fx1 zx1 fx2 zx2 xx fy0 zy0 fy1 zy1 fy2 zy2 xy
  obtain ⟨fx0, zx0, fx1, zx1, fx2, zx2, xx⟩ := ly3 Rx_1.out
  obtain ⟨fy0, zy0, fy1, zy1, fy2, zy2, xy⟩ := ly3 Ry_1.out
  have KD := Lib.hid (bd0 v1)
  have LD := ls L1 KD.out
  have Mxa : w.heap.size ≠ w.heap.size + 1 + 1 := by omega
  have Mxb : w.heap.size ≠ w.heap.size + 1 + 1 + 1 := by omega
  have Mya : w.heap.size + 1 ≠ w.heap.size + 1 + 1 := by omega
  have Myb : w.heap.size + 1 ≠ w.heap.size + 1 + 1 + 1 := by omega
  go_region_held3 (fun w' => (∀ o, w'.cell? ⟨w.heap.size, o, none⟩ = v1.cell? ⟨w.heap.size, o, none⟩) ∧ (∀ o, w'.cell? ⟨w.heap.size + 1, o, none⟩ = v1.cell? ⟨w.heap.size + 1, o, none⟩))
    (first | with_reducible exact ⟨keep_b KD.out xx, keep_b KD.out xy⟩ | with_reducible exact ⟨keep_b K3.out xx, keep_b K3.out xy⟩ | exact ⟨(keep_set (keep_b K3.out xx) Mxa), (keep_set (keep_b K3.out xy) Mya)⟩ | exact ⟨(keep_set (keep_set (keep_b K3.out xx) Mxa) Mxa), (keep_set (keep_set (keep_b K3.out xy) Mya) Mya)⟩ | exact ⟨(keep_set (keep_set (keep_set (keep_b K3.out xx) Mxa) Mxa) Mxb), (keep_set (keep_set (keep_set (keep_b K3.out xy) Mya) Mya) Myb)⟩ | exact ⟨(keep_set (keep_set (keep_set (keep_set (keep_b K3.out xx) Mxa) Mxa) Mxb) Mxb), (keep_set (keep_set (keep_set (keep_set (keep_b K3.out xy) Mya) Mya) Myb) Myb)⟩)
    (first
      | (go_at_call 93; (with_reducible refine (r5up_z (LD.out.get (A := B) (c := d) (xs := digs n.natAbs) (by simp)) (Nat.le_trans ly.out (by omega)) HC.out.1 HC.out.2 HK.out HU.out).mono ?_); rintro e w3 ⟨A3, c3, rfl, hd, hb⟩; (have K3 := bt KD hb); (have L3 := la LD hb hd); (have qa0_K3 := row_c (i := 0) (co Ra_1 K3.out).out rfl); (have pa0_K3 := frozen_of_row _ _ 0 _ _ (cells_of Ra_1.out K3.out)); (have qa1_K3 := row_c (i := 1) (co Ra_1 K3.out).out rfl); (have pa1_K3 := frozen_of_row _ _ 1 _ _ (cells_of Ra_1.out K3.out)); (have qb0_K3 := row_c (i := 0) (co Rb_1 K3.out).out rfl); (have pb0_K3 := frozen_of_row _ _ 0 _ _ (cells_of Rb_1.out K3.out)); (have qb1_K3 := row_c (i := 1) (co Rb_1 K3.out).out rfl); (have pb1_K3 := frozen_of_row _ _ 1 _ _ (cells_of Rb_1.out K3.out)); clear hb hd))
  rename_i hHeld
  clear hHeld
  clear fx0 zx0 fx1 zx1 fx2 zx2 xx fy0 zy0 fy1 zy1 fy2 zy2 xy
  have Rx_3 := co Rx_1 K3.out
  have Ry_3 := co Ry_1 K3.out
  have Ra_3 := co Ra_1 K3.out
  have Rb_3 := co Rb_1 K3.out
  clear wk
  -- the end
  obtain ⟨w4, hW⟩ : ∃ W : World, W = ((w3.setCell ⟨w.heap.size + 1 + 1, 0, none⟩ (.bool (decide (m < 0)))).setCell ⟨w.heap.size + 1 + 1, 1, none⟩ (.slice A (digs m.natAbs).length c)) := ⟨_, rfl⟩
  rw [← hW]
  have hO : Only (w.heap.size + 1 + 1) w3 w4 := by rw [hW]; exact (((Only.refl (w.heap.size + 1 + 1) w3).setCell 0 _).setCell 1 _)
  have L4 := Lib.hid (live_only L3.out hO Ra_3.out noint_int Ga)
  have Rx_4 := Lib.hid ((hO.block _ (by omega)).trans Rx_3.out)
  have Ry_4 := Lib.hid ((hO.block _ (by omega)).trans Ry_3.out)
  have Rb_4 := Lib.hid ((hO.block _ (by omega)).trans Rb_3.out)
  have Ra_4 := Lib.hid (show w4.heap[w.heap.size + 1 + 1]? = some (.cells #[.bool (decide (m < 0)), .slice A (digs m.natAbs).length c] 24 (0, 0)) by rw [hW]; exact (heap_setCell_same _ _ 1 _ _ _ (heap_setCell_same _ _ 0 _ _ _ Ra_3.out)))
  clear hW hO
  obtain ⟨w5, hW⟩ : ∃ W : World, W = ((w4.setCell ⟨w.heap.size + 1 + 1 + 1, 0, none⟩ (.bool (decide (q < 0)))).setCell ⟨w.heap.size + 1 + 1 + 1, 1, none⟩ (.slice A3 (digs q.natAbs).length c3)) := ⟨_, rfl⟩
  rw [← hW]
  have hO : Only (w.heap.size + 1 + 1 + 1) w4 w5 := by rw [hW]; exact (((Only.refl (w.heap.size + 1 + 1 + 1) w4).setCell 0 _).setCell 1 _)
  have L5 := Lib.hid (live_only L4.out hO Rb_4.out noint_int Gb)
  have Rx_5 := Lib.hid ((hO.block _ (by omega)).trans Rx_4.out)
  have Ry_5 := Lib.hid ((hO.block _ (by omega)).trans Ry_4.out)
  have Ra_5 := Lib.hid ((hO.block _ (by omega)).trans Ra_4.out)
  have Rb_5 := Lib.hid (show w5.heap[w.heap.size + 1 + 1 + 1]? = some (.cells #[.bool (decide (q < 0)), .slice A3 (digs q.natAbs).length c3] 24 (0, 0)) by rw [hW]; exact (heap_setCell_same _ _ 1 _ _ _ (heap_setCell_same _ _ 0 _ _ _ Rb_4.out)))
  clear hW hO
  obtain ⟨fa0, za0, fa1, za1, xa⟩ := ly2 Ra_5.out
  obtain ⟨fb0, zb0, fb1, zb1, xb⟩ := ly2 Rb_5.out
  go_wp2
  refine bodyPost_ret (v := .tuple #[.agg #[.bool (decide (m < 0)), .slice A (digs m.natAbs).length c], .agg #[.bool (decide (q < 0)), .slice A3 (digs q.natAbs).length c3], .int .i64 x]) (by simp [results, Tryd.results53, go_sem, fa0, fa1, fb0, fb1]) rfl ?_
  refine ⟨A, c, A3, c3, rfl, L5.out.get (A := A) (c := c) (xs := digs m.natAbs) (by simp), L5.out.get (A := A3) (c := c3) (xs := digs q.natAbs) (by simp), L5.out.1⟩
end Go.Proofs.YtaciohjobenipaaDoor
end

section
/-
  zint.Small.
-/
namespace Go.Proofs.YtaciohjobenipaaDoor
open Go.RowKit
theorem ret_ib {a b : Int} {p q : Bool} (h : a = b) (h' : p = q) : Ending.returned (.tuple #[.int .i64 a, .bool p]) = .returned (.tuple #[.int .i64 b, .bool q]) := by rw [h, h']
theorem wrap_i64_eq (x : Int) (h : -9223372036854775808 ≤ x) (h' : x ≤ 9223372036854775807) : IntKind.i64.wrap x = x := IntWalk.i64_in _ ⟨h, h'⟩
theorem turn_u64 (x : Nat) (h : 0 < x) (h' : x ≤ 9223372036854775808) : wrap64 (IntKind.u64.wrap (-(x : Int))) = -(x : Int) := by
  rw [wrap_u64_eq]; unfold wrap64; omega
/-- What Small answers. -/
def smallz (z : Int) : Int := if -9223372036854775808 ≤ z ∧ z ≤ 9223372036854775807 then z else 0
def smallb (z : Int) : Bool := decide (-9223372036854775808 ≤ z ∧ z ≤ 9223372036854775807)
end Go.Proofs.YtaciohjobenipaaDoor
end

section
/-
  astrolaberef04's Small, Cmp.
-/
namespace Go.Proofs.YtaciohjobenipaaDoor
open Go.RowKit
theorem cmp_mag {x y : Int} (h : decide (x < 0) = decide (y < 0)) : cmpi x.natAbs y.natAbs = (if x < 0 then -Int.sign (x - y) else Int.sign (x - y)) := by
  have h1 := sign_three (x - y)
  have h2 := cmpi_three x.natAbs y.natAbs
  rw [decide_eq_decide] at h
  split <;> omega
set_option maxHeartbeats 2000000 in
set_option maxRecDepth 100000 in
theorem rzcmp_any (A B : Option Addr) (c d : Nat) (s r : Bool) (xs ys : List Nat) (w : World) (h : Dg w A c xs) (h' : Dg w B d ys) (hl : xs.length ≤ 1000000) (hl' : ys.length ≤ 1000000) :
    Calls Tryd.prog 52 #[.agg #[.bool s, .slice A xs.length c], .agg #[.bool r, .slice B ys.length d]] w fun e w' => e = .returned (.int .i64 (Int.sign (sg s (val xs) - sg r (val ys)))) ∧ Below w.heap.size w w' := by
  have l1 := digs_len_le h.2.1
  have l2 := digs_len_le h'.2.1
  have MA := Lib.hid (fun W h => rmake_any A c s xs W h hl)
  have MB := Lib.hid (fun W h => rmake_any B d r ys W h hl')
  have a1 := sg_abs s (val xs)
  have a2 := sg_abs r (val ys)
  generalize sg s (val xs) = x at *
  generalize sg r (val ys) = y at *
  rw [← a1] at l1
  rw [← a2] at l2
  clear a1 a2
  simp only [Zr] at MA MB
  obtain ⟨p, hp⟩ : ∃ p, decide (x < 0) = p := ⟨_, rfl⟩
  obtain ⟨q, hq⟩ : ∃ q, decide (y < 0) = q := ⟨_, rfl⟩
  rw [hp] at MA
  rw [hq] at MB
  have key : (p = true ∧ q = false ∧ (-1 : Int) = Int.sign (x - y)) ∨ (p = false ∧ q = true ∧ (1 : Int) = Int.sign (x - y)) ∨ (p = true ∧ q = true ∧ cmpi y.natAbs x.natAbs = Int.sign (x - y)) ∨ (p = false ∧ q = false ∧ cmpi x.natAbs y.natAbs = Int.sign (x - y)) := by
    have h1 := sign_three (x - y)
    have h2 := cmpi_three x.natAbs y.natAbs
    have h3 := cmpi_three y.natAbs x.natAbs
    cases p <;> cases q <;> simp only [decide_eq_true_eq, decide_eq_false_iff_not] at hp hq <;> simp <;> omega
  have KEY := Lib.hid key
  clear hp hq key
  have KEY2 := KEY.out
  rcases KEY2 with ⟨rfl, rfl, e0⟩ | ⟨rfl, rfl, e0⟩ | ⟨rfl, rfl, e0⟩ | ⟨rfl, rfl, e0⟩
  · have E0 := Lib.hid e0
    clear e0
    go_enter Tryd.func52, Tryd.ntmps52
    go_wp2_with fail
    refine (MA.out _ (h.below (below2 _ _ _))).mono ?_
    rintro e w1 ⟨A1, c1, rfl, hd, hb⟩
    have K1 := Lib.hid hb
    have G1 := Lib.hid hd
    have H2 := Lib.hid ((h'.below (below2 w (.cells #[.bool s, .slice A xs.length c] 24) (.cells #[.bool r, .slice B ys.length d] 24))).below hb)
    obtain ⟨hc1, hf1⟩ := bcell hb
    have z1 : w.heap.size + 1 < w1.heap.size := by have := hb.size; simp at this; omega
    clear hb hd h h'
    go_wp2_with fail
    refine (MB.out _ (H2.out.below (below1 _ _))).mono ?_
    rintro e w2 ⟨A2, c2, rfl, hd, hb⟩
    have K2 := Lib.hid (K1.out.trans (((below1 _ _).trans (hb.mono (by simp))).mono K1.out.size))
    have G2 := Lib.hid hd
    have G3 := Lib.hid ((G1.out.below (below1 w1 (.cells #[.bool true, .slice A1 (digs x.natAbs).length c1] 24))).below hb)
    obtain ⟨hc2, hf2⟩ := bcell hb
    have z2 : w1.heap.size < w2.heap.size := by have := hb.size; simp at this; omega
    clear hb hd
    go_wp2
    go_ret
    exact ⟨ret_i E0.out, ((below2 w _ _).trans (K2.out.mono (by simp; omega))).alloc (by have := K2.out.size; simp at this; omega) _⟩
  · have E0 := Lib.hid e0
    clear e0
    go_enter Tryd.func52, Tryd.ntmps52
    go_wp2_with fail
    refine (MA.out _ (h.below (below2 _ _ _))).mono ?_
    rintro e w1 ⟨A1, c1, rfl, hd, hb⟩
    have K1 := Lib.hid hb
    have G1 := Lib.hid hd
    have H2 := Lib.hid ((h'.below (below2 w (.cells #[.bool s, .slice A xs.length c] 24) (.cells #[.bool r, .slice B ys.length d] 24))).below hb)
    obtain ⟨hc1, hf1⟩ := bcell hb
    have z1 : w.heap.size + 1 < w1.heap.size := by have := hb.size; simp at this; omega
    clear hb hd h h'
    go_wp2_with fail
    refine (MB.out _ (H2.out.below (below1 _ _))).mono ?_
    rintro e w2 ⟨A2, c2, rfl, hd, hb⟩
    have K2 := Lib.hid (K1.out.trans (((below1 _ _).trans (hb.mono (by simp))).mono K1.out.size))
    have G2 := Lib.hid hd
    have G3 := Lib.hid ((G1.out.below (below1 w1 (.cells #[.bool false, .slice A1 (digs x.natAbs).length c1] 24))).below hb)
    obtain ⟨hc2, hf2⟩ := bcell hb
    have z2 : w1.heap.size < w2.heap.size := by have := hb.size; simp at this; omega
    clear hb hd
    go_wp2
    go_ret
    exact ⟨ret_i E0.out, ((below2 w _ _).trans (K2.out.mono (by simp; omega))).alloc (by have := K2.out.size; simp at this; omega) _⟩
  · have E0 := Lib.hid e0
    clear e0
    go_enter Tryd.func52, Tryd.ntmps52
    go_wp2_with fail
    refine (MA.out _ (h.below (below2 _ _ _))).mono ?_
    rintro e w1 ⟨A1, c1, rfl, hd, hb⟩
    have K1 := Lib.hid hb
    have G1 := Lib.hid hd
    have H2 := Lib.hid ((h'.below (below2 w (.cells #[.bool s, .slice A xs.length c] 24) (.cells #[.bool r, .slice B ys.length d] 24))).below hb)
    obtain ⟨hc1, hf1⟩ := bcell hb
    have z1 : w.heap.size + 1 < w1.heap.size := by have := hb.size; simp at this; omega
    clear hb hd h h'
    go_wp2_with fail
    refine (MB.out _ (H2.out.below (below1 _ _))).mono ?_
    rintro e w2 ⟨A2, c2, rfl, hd, hb⟩
    have K2 := Lib.hid (K1.out.trans (((below1 _ _).trans (hb.mono (by simp))).mono K1.out.size))
    have G2 := Lib.hid hd
    have G3 := Lib.hid ((G1.out.below (below1 w1 (.cells #[.bool true, .slice A1 (digs x.natAbs).length c1] 24))).below hb)
    obtain ⟨hc2, hf2⟩ := bcell hb
    have z2 : w1.heap.size < w2.heap.size := by have := hb.size; simp at this; omega
    clear hb hd
    go_wp2_with fail
    refine (rcmp_any A2 A1 c2 c1 (digs y.natAbs) (digs x.natAbs) _ (G2.out.below (below1 _ _)) (G3.out.below (below1 _ _)) (by omega) (by omega)).mono ?_
    rintro e w3 ⟨rfl, rfl⟩
    go_wp2
    go_ret
    exact ⟨ret_i (by rw [val_digs, val_digs]; exact E0.out), ((below2 w _ _).trans (K2.out.mono (by simp; omega))).alloc (by have := K2.out.size; simp at this; omega) _⟩
  · have E0 := Lib.hid e0
    clear e0
    go_enter Tryd.func52, Tryd.ntmps52
    go_wp2_with fail
    refine (MA.out _ (h.below (below2 _ _ _))).mono ?_
    rintro e w1 ⟨A1, c1, rfl, hd, hb⟩
    have K1 := Lib.hid hb
    have G1 := Lib.hid hd
    have H2 := Lib.hid ((h'.below (below2 w (.cells #[.bool s, .slice A xs.length c] 24) (.cells #[.bool r, .slice B ys.length d] 24))).below hb)
    obtain ⟨hc1, hf1⟩ := bcell hb
    have z1 : w.heap.size + 1 < w1.heap.size := by have := hb.size; simp at this; omega
    clear hb hd h h'
    go_wp2_with fail
    refine (MB.out _ (H2.out.below (below1 _ _))).mono ?_
    rintro e w2 ⟨A2, c2, rfl, hd, hb⟩
    have K2 := Lib.hid (K1.out.trans (((below1 _ _).trans (hb.mono (by simp))).mono K1.out.size))
    have G2 := Lib.hid hd
    have G3 := Lib.hid ((G1.out.below (below1 w1 (.cells #[.bool false, .slice A1 (digs x.natAbs).length c1] 24))).below hb)
    obtain ⟨hc2, hf2⟩ := bcell hb
    have z2 : w1.heap.size < w2.heap.size := by have := hb.size; simp at this; omega
    clear hb hd
    go_wp2_with fail
    refine (rcmp_any A1 A2 c1 c2 (digs x.natAbs) (digs y.natAbs) _ (G3.out.below (below1 _ _)) (G2.out.below (below1 _ _)) (by omega) (by omega)).mono ?_
    rintro e w3 ⟨rfl, rfl⟩
    go_wp2
    go_ret
    exact ⟨ret_i (by rw [val_digs, val_digs]; exact E0.out), ((below2 w _ _).trans (K2.out.mono (by simp; omega))).alloc (by have := K2.out.size; simp at this; omega) _⟩
end Go.Proofs.YtaciohjobenipaaDoor
end

section
/-
  ref05: Cmp.
-/
namespace Go.Proofs.YtaciohjobenipaaDoor
open Go.RowKit
set_option linter.unusedSimpArgs false
set_option linter.unusedVariables false
theorem rzcmp_j {A B : Option Addr} {c d : Nat} {s r : Bool} {xs ys : List Nat} {x y q : Int} {w : World} (h : Dg w A c xs) (h' : Dg w B d ys) (hx : sg s (val xs) = x) (hy : sg r (val ys) = y) (hl : xs.length ≤ 1000000) (hl' : ys.length ≤ 1000000) (hq : Int.sign (x - y) = q) :
    Calls Tryd.prog 52 #[.agg #[.bool s, .slice A xs.length c], .agg #[.bool r, .slice B ys.length d]] w fun e w' => e = .returned (.int .i64 q) ∧ Below w.heap.size w w' := by
  subst hq hx hy; exact rzcmp_any A B c d s r xs ys w h h' hl hl'
theorem cmp_sign {m x n y : Int} (h : (m < 0 ∧ 0 ≤ n) ∨ (0 ≤ m ∧ n < 0) ∨ (m = 0 ∧ 0 ≤ n) ∨ (0 ≤ m ∧ n = 0)) : Int.sign (m - n) = cmpd (dv m x) (dv n y) := by
  have a := sign_three m
  have b := sign_three n
  have c := sign_three (m - n)
  rcases Int.lt_trichotomy (Int.sign m) (Int.sign n) with hc | hc | hc
  · rw [cmp_less hc]; omega
  · have hm : m = 0 := by omega
    have hn : n = 0 := by omega
    subst hm hn
    rw [dv_zero, dv_zero, cmpd_eq rfl]; rfl
  · rw [cmp_more hc]; omega
theorem cmp_sz {m x n y : Int} (hs : Int.sign m = Int.sign n) (hx : Nf m x) (hy : Nf n y) (h : x + bl m ≠ y + bl n) : (if decide (x + bl m < y + bl n) == decide (m < 0) then (1 : Int) else -1) = cmpd (dv m x) (dv n y) ∨ m = 0 := by
  by_cases m0 : m = 0
  · exact .inr m0
  · left
    have key := cmp_same hs hx hy
    have a := sign_three m
    unfold agq at key
    by_cases h1 : x + bl m < y + bl n
    · rw [if_pos h1] at key
      rw [decide_eq_true h1]
      by_cases h2 : m < 0
      · rw [decide_eq_true h2, ← key, show Int.sign m = -1 by omega]; rfl
      · rw [decide_eq_false h2, ← key, show Int.sign m = 1 by omega]; rfl
    · rw [if_neg h1, if_pos (show y + bl n < x + bl m by omega)] at key
      rw [decide_eq_false h1]
      by_cases h2 : m < 0
      · rw [decide_eq_true h2, ← key, show Int.sign m = -1 by omega]; rfl
      · rw [decide_eq_false h2, ← key, show Int.sign m = 1 by omega]; rfl
theorem cmp_up {m x n y e0 p q : Int} (he : min x y = e0) (hp : upto m x e0 = p) (hq : upto n y e0 = q) : Int.sign (p - q) = cmpd (dv m x) (dv n y) := by
  rw [← dv_upto (m := m) (show e0 ≤ x by omega), ← dv_upto (m := n) (show e0 ≤ y by omega), hp, hq, cmpd_same]
  have a := sign_three (p - q)
  split
  · omega
  · split <;> omega
theorem sg_of (b : Bool) {m : Int} (h : decide (m < 0) = b) : sg b (val (digs m.natAbs)) = m := by
  rw [val_digs, ← h]; exact sg_dz' m

theorem r5lift_any {A B : Option Addr} {c d : Nat} {m n x y p q e0 : Int} {w : World} (h : Dg w A c (digs m.natAbs)) (h' : Dg w B d (digs n.natAbs)) (hl : (digs m.natAbs).length ≤ 10000) (hl' : (digs n.natAbs).length ≤ 10000) (x0 : -131072 ≤ x) (x1 : x ≤ 131072) (y0 : -131072 ≤ y) (y1 : y ≤ 131072) (m0 : m ≠ 0) (n0 : n ≠ 0) (he : min x y = e0) (hp : upto m x e0 = p) (hq : upto n y e0 = q) :
    Calls Tryd.prog 53 #[.agg #[.bool (decide (m < 0)), .slice A (digs m.natAbs).length c, .int .i64 x], .agg #[.bool (decide (n < 0)), .slice B (digs n.natAbs).length d, .int .i64 y]] w fun e w' => Ybs p q e0 w e w' := by
  by_cases hc : y < x
  · exact r5lift_gt A B c d m n x y w h h' hl hl' x0 x1 y0 y1 m0 n0 he hp hq hc
  · exact r5lift_le A B c d m n x y w h h' hl hl' x0 x1 y0 y1 m0 n0 he hp hq (by omega)

set_option maxHeartbeats 4000000 in
set_option maxRecDepth 100000 in
theorem r5cmp_ff_z1 (A B : Option Addr) (c d : Nat) (m n x y : Int) (w : World) (h : Dg w A c (digs m.natAbs)) (h' : Dg w B d (digs n.natAbs)) (hl : (digs m.natAbs).length ≤ 10000) (hl' : (digs n.natAbs).length ≤ 10000) (r1 : Rt m x) (r2 : Rt n y) (hs : decide (m < 0) = false) (hr : decide (n < 0) = false) {q : Int} (hq : cmpd (dv m x) (dv n y) = q) (m0 : m = 0):
    Calls Tryd.prog 20 #[.agg #[.bool false, .slice A (digs m.natAbs).length c, .int .i64 x], .agg #[.bool false, .slice B (digs n.natAbs).length d, .int .i64 y]] w fun e w' => e = .returned (.int .i64 q) ∧ Below w.heap.size w w' := by
  have x0 := r1.2.1
  have x1 := r1.2.2
  have y0 := r2.2.1
  have y1 := r2.2.2
  have dx := fun (W : World) (hW : Dg W A c (digs m.natAbs)) => r5right_t (w := W) hW hl r1
  have dy := fun (W : World) (hW : Dg W B d (digs n.natAbs)) => r5right_t (w := W) hW hl' r2
  simp only [hs] at dx
  simp only [hr] at dy
  have DX := Lib.hid dx
  have DY := Lib.hid dy
  have lx := Lib.hid hl
  have ly := Lib.hid hl'
  have SX := Lib.hid (sg_of _ hs)
  have SY := Lib.hid (sg_of _ hr)
  have t1 : ((((digs m.natAbs).length : Nat) : Int) == 0) = true := by rw [m0, show digs (0 : Int).natAbs = [] from digs_zero]; rfl
  have HQ := Lib.hid (show Int.sign (m - n) = q by rw [← hq]; exact cmp_sign (by simp at hs hr; omega))
  have L0 := Lib.hid (((live_start w).add h).add h')
  clear h h' hl hl' r1 r2 dx dy hs hr hq m0
  go_enter Tryd.func20, Tryd.ntmps20
  go_wp2_with fail
  obtain ⟨v1, hW, hb, Rx_1, Ry_1⟩ := new2 w (.cells #[.bool false, .slice A (digs m.natAbs).length c, .int .i64 x] 26) (.cells #[.bool false, .slice B (digs n.natAbs).length d, .int .i64 y] 26)
  rw [← hW]
  have L1 := ls L0 hb
  have Gx := gl0 L0.out
  have Gy := gl1 L0.out
  have Nxy : w.heap.size < w.heap.size + 1 := by omega
  clear hW hb
  refine (DX.out _ (L1.out.get (A := A) (c := c) (xs := digs m.natAbs) (by simp))).mono ?_
  rintro e w2 ⟨rfl, hb⟩
  have L2 := ls L1 hb
  have Rx_2 := co Rx_1 hb
  have Ry_2 := co Ry_1 hb
  clear hb 
  obtain ⟨fx0, zx0, fx1, zx1, fx2, zx2, xx⟩ := ly3 Rx_2.out
  obtain ⟨fy0, zy0, fy1, zy1, fy2, zy2, xy⟩ := ly3 Ry_2.out
  go_wp2_with fail
  refine (DY.out _ (L2.out.get (A := B) (c := d) (xs := digs n.natAbs) (by simp))).mono ?_
  rintro e w3 ⟨rfl, hb⟩
  have L3 := ls L2 hb
  clear fx0 zx0 fx1 zx1 fx2 zx2 xx fy0 zy0 fy1 zy1 fy2 zy2 xy
  have Rx_3 := co Rx_2 hb
  have Ry_3 := co Ry_2 hb
  clear hb 
  obtain ⟨fx0, zx0, fx1, zx1, fx2, zx2, xx⟩ := ly3 Rx_3.out
  obtain ⟨fy0, zy0, fy1, zy1, fy2, zy2, xy⟩ := ly3 Ry_3.out
  go_wp2_with fail
  refine (rzcmp_j (L3.out.get (A := A) (c := c) (xs := digs m.natAbs) (by simp)) (L3.out.get (A := B) (c := d) (xs := digs n.natAbs) (by simp)) SX.out SY.out (Nat.le_trans lx.out (by omega)) (Nat.le_trans ly.out (by omega)) HQ.out).mono ?_
  rintro e w4 ⟨rfl, hb⟩
  have L4 := ls L3 hb
  clear fx0 zx0 fx1 zx1 fx2 zx2 xx fy0 zy0 fy1 zy1 fy2 zy2 xy
  have Rx_4 := co Rx_3 hb
  have Ry_4 := co Ry_3 hb
  clear hb 
  go_wp2
  go_ret
  exact ⟨rfl, L4.out.1⟩

set_option maxHeartbeats 4000000 in
set_option maxRecDepth 100000 in
theorem r5cmp_ff_z2 (A B : Option Addr) (c d : Nat) (m n x y : Int) (w : World) (h : Dg w A c (digs m.natAbs)) (h' : Dg w B d (digs n.natAbs)) (hl : (digs m.natAbs).length ≤ 10000) (hl' : (digs n.natAbs).length ≤ 10000) (r1 : Rt m x) (r2 : Rt n y) (hs : decide (m < 0) = false) (hr : decide (n < 0) = false) {q : Int} (hq : cmpd (dv m x) (dv n y) = q) (m0 : m ≠ 0) (n0 : n = 0):
    Calls Tryd.prog 20 #[.agg #[.bool false, .slice A (digs m.natAbs).length c, .int .i64 x], .agg #[.bool false, .slice B (digs n.natAbs).length d, .int .i64 y]] w fun e w' => e = .returned (.int .i64 q) ∧ Below w.heap.size w w' := by
  have x0 := r1.2.1
  have x1 := r1.2.2
  have y0 := r2.2.1
  have y1 := r2.2.2
  have dx := fun (W : World) (hW : Dg W A c (digs m.natAbs)) => r5right_t (w := W) hW hl r1
  have dy := fun (W : World) (hW : Dg W B d (digs n.natAbs)) => r5right_t (w := W) hW hl' r2
  simp only [hs] at dx
  simp only [hr] at dy
  have DX := Lib.hid dx
  have DY := Lib.hid dy
  have lx := Lib.hid hl
  have ly := Lib.hid hl'
  have SX := Lib.hid (sg_of _ hs)
  have SY := Lib.hid (sg_of _ hr)
  have t1 : ((((digs m.natAbs).length : Nat) : Int) == 0) = false := beq_eq_false_iff_ne.2 (fun e => m0 (by have := digs_nil.1 (show (digs m.natAbs).length = 0 by omega); omega))
  have t2 : ((((digs n.natAbs).length : Nat) : Int) == 0) = true := by rw [n0, show digs (0 : Int).natAbs = [] from digs_zero]; rfl
  have HQ := Lib.hid (show Int.sign (m - n) = q by rw [← hq]; exact cmp_sign (by simp at hs hr; omega))
  have L0 := Lib.hid (((live_start w).add h).add h')
  clear h h' hl hl' r1 r2 dx dy hs hr hq m0 n0
  go_enter Tryd.func20, Tryd.ntmps20
  go_wp2_with fail
  obtain ⟨v1, hW, hb, Rx_1, Ry_1⟩ := new2 w (.cells #[.bool false, .slice A (digs m.natAbs).length c, .int .i64 x] 26) (.cells #[.bool false, .slice B (digs n.natAbs).length d, .int .i64 y] 26)
  rw [← hW]
  have L1 := ls L0 hb
  have Gx := gl0 L0.out
  have Gy := gl1 L0.out
  have Nxy : w.heap.size < w.heap.size + 1 := by omega
  clear hW hb
  refine (DX.out _ (L1.out.get (A := A) (c := c) (xs := digs m.natAbs) (by simp))).mono ?_
  rintro e w2 ⟨rfl, hb⟩
  have L2 := ls L1 hb
  have Rx_2 := co Rx_1 hb
  have Ry_2 := co Ry_1 hb
  clear hb 
  obtain ⟨fx0, zx0, fx1, zx1, fx2, zx2, xx⟩ := ly3 Rx_2.out
  obtain ⟨fy0, zy0, fy1, zy1, fy2, zy2, xy⟩ := ly3 Ry_2.out
  go_wp2_with fail
  refine (DY.out _ (L2.out.get (A := B) (c := d) (xs := digs n.natAbs) (by simp))).mono ?_
  rintro e w3 ⟨rfl, hb⟩
  have L3 := ls L2 hb
  clear fx0 zx0 fx1 zx1 fx2 zx2 xx fy0 zy0 fy1 zy1 fy2 zy2 xy
  have Rx_3 := co Rx_2 hb
  have Ry_3 := co Ry_2 hb
  clear hb 
  obtain ⟨fx0, zx0, fx1, zx1, fx2, zx2, xx⟩ := ly3 Rx_3.out
  obtain ⟨fy0, zy0, fy1, zy1, fy2, zy2, xy⟩ := ly3 Ry_3.out
  go_wp2_with fail
  refine (rzcmp_j (L3.out.get (A := A) (c := c) (xs := digs m.natAbs) (by simp)) (L3.out.get (A := B) (c := d) (xs := digs n.natAbs) (by simp)) SX.out SY.out (Nat.le_trans lx.out (by omega)) (Nat.le_trans ly.out (by omega)) HQ.out).mono ?_
  rintro e w4 ⟨rfl, hb⟩
  have L4 := ls L3 hb
  clear fx0 zx0 fx1 zx1 fx2 zx2 xx fy0 zy0 fy1 zy1 fy2 zy2 xy
  have Rx_4 := co Rx_3 hb
  have Ry_4 := co Ry_3 hb
  clear hb 
  go_wp2
  go_ret
  exact ⟨rfl, L4.out.1⟩

set_option maxHeartbeats 4000000 in
set_option maxRecDepth 100000 in
theorem r5cmp_ff_lt (A B : Option Addr) (c d : Nat) (m n x y : Int) (w : World) (h : Dg w A c (digs m.natAbs)) (h' : Dg w B d (digs n.natAbs)) (hl : (digs m.natAbs).length ≤ 10000) (hl' : (digs n.natAbs).length ≤ 10000) (r1 : Rt m x) (r2 : Rt n y) (hs : decide (m < 0) = false) (hr : decide (n < 0) = false) {q : Int} (hq : cmpd (dv m x) (dv n y) = q) (m0 : m ≠ 0) (n0 : n ≠ 0) (hc : x + bl m < y + bl n):
    Calls Tryd.prog 20 #[.agg #[.bool false, .slice A (digs m.natAbs).length c, .int .i64 x], .agg #[.bool false, .slice B (digs n.natAbs).length d, .int .i64 y]] w fun e w' => e = .returned (.int .i64 q) ∧ Below w.heap.size w w' := by
  have x0 := r1.2.1
  have x1 := r1.2.2
  have y0 := r2.2.1
  have y1 := r2.2.2
  have dx := fun (W : World) (hW : Dg W A c (digs m.natAbs)) => r5right_t (w := W) hW hl r1
  have dy := fun (W : World) (hW : Dg W B d (digs n.natAbs)) => r5right_t (w := W) hW hl' r2
  simp only [hs] at dx
  simp only [hr] at dy
  have DX := Lib.hid dx
  have DY := Lib.hid dy
  have lx := Lib.hid hl
  have ly := Lib.hid hl'
  have SX := Lib.hid (sg_of _ hs)
  have SY := Lib.hid (sg_of _ hr)
  have t1 : ((((digs m.natAbs).length : Nat) : Int) == 0) = false := beq_eq_false_iff_ne.2 (fun e => m0 (by have := digs_nil.1 (show (digs m.natAbs).length = 0 by omega); omega))
  have t2 : ((((digs n.natAbs).length : Nat) : Int) == 0) = false := beq_eq_false_iff_ne.2 (fun e => n0 (by have := digs_nil.1 (show (digs n.natAbs).length = 0 by omega); omega))
  have hsn : Int.sign m = Int.sign n := by have a := sign_three m; have b := sign_three n; simp at hs hr; omega
  have hz := cmp_sz hsn r1.1 r2.1 (by omega)
  rw [hq, hs, decide_eq_true (show  x + bl m < y + bl n by omega)] at hz
  obtain rfl : q = (-1) := by
    rcases hz with h1 | h1
    · rw [← h1]; rfl
    · exact absurd h1 m0
  obtain ⟨s1, hs1⟩ : ∃ v : Int, x + bl m = v := ⟨_, rfl⟩
  obtain ⟨s2, hs2⟩ : ∃ v : Int, y + bl n = v := ⟨_, rfl⟩
  rw [hs1, hs2] at hc
  have sx := fun (W : World) (hW : Dg W A c (digs m.natAbs)) => r5size_any A c m x s1 W hW (Nat.le_trans hl (by omega)) (by omega) (by omega) hs1
  have sy := fun (W : World) (hW : Dg W B d (digs n.natAbs)) => r5size_any B d n y s2 W hW (Nat.le_trans hl' (by omega)) (by omega) (by omega) hs2
  simp only [hs] at sx
  simp only [hr] at sy
  have ZX := Lib.hid sx
  have ZY := Lib.hid sy
  have d0 : (s1 == s2) = false := by simp; omega
  have d0' : (s1 != s2) = true := by simp; omega
  have d1 : decide (s1 < s2) = true := by simp; omega
  have L0 := Lib.hid (((live_start w).add h).add h')
  clear h h' hl hl' r1 r2 dx dy hs hr hq hsn hz m0 n0 hc hs1 hs2 sx sy
  go_enter Tryd.func20, Tryd.ntmps20
  go_wp2_with fail
  obtain ⟨v1, hW, hb, Rx_1, Ry_1⟩ := new2 w (.cells #[.bool false, .slice A (digs m.natAbs).length c, .int .i64 x] 26) (.cells #[.bool false, .slice B (digs n.natAbs).length d, .int .i64 y] 26)
  rw [← hW]
  have L1 := ls L0 hb
  have Gx := gl0 L0.out
  have Gy := gl1 L0.out
  have Nxy : w.heap.size < w.heap.size + 1 := by omega
  clear hW hb
  refine (DX.out _ (L1.out.get (A := A) (c := c) (xs := digs m.natAbs) (by simp))).mono ?_
  rintro e w2 ⟨rfl, hb⟩
  have L2 := ls L1 hb
  have Rx_2 := co Rx_1 hb
  have Ry_2 := co Ry_1 hb
  clear hb 
  obtain ⟨fx0, zx0, fx1, zx1, fx2, zx2, xx⟩ := ly3 Rx_2.out
  obtain ⟨fy0, zy0, fy1, zy1, fy2, zy2, xy⟩ := ly3 Ry_2.out
  go_wp2_with fail
  refine (DY.out _ (L2.out.get (A := B) (c := d) (xs := digs n.natAbs) (by simp))).mono ?_
  rintro e w3 ⟨rfl, hb⟩
  have L3 := ls L2 hb
  clear fx0 zx0 fx1 zx1 fx2 zx2 xx fy0 zy0 fy1 zy1 fy2 zy2 xy
  have Rx_3 := co Rx_2 hb
  have Ry_3 := co Ry_2 hb
  clear hb 
  obtain ⟨fx0, zx0, fx1, zx1, fx2, zx2, xx⟩ := ly3 Rx_3.out
  obtain ⟨fy0, zy0, fy1, zy1, fy2, zy2, xy⟩ := ly3 Ry_3.out
  go_wp2_with fail
  clear fx0 zx0 fx1 zx1 fx2 zx2 xx fy0 zy0 fy1 zy1 fy2 zy2 xy
  obtain ⟨fx0, zx0, fx1, zx1, fx2, zx2, xx⟩ := ly3 Rx_3.out
  obtain ⟨fy0, zy0, fy1, zy1, fy2, zy2, xy⟩ := ly3 Ry_3.out
  have KD := Lib.hid (bd0 w3)
  have LD := ls L3 KD.out
  go_region_held3 (fun w' => ∀ b o, b < w3.heap.size → w'.cell? ⟨b, o, none⟩ = w3.cell? ⟨b, o, none⟩)
    (first | with_reducible exact (bcell KD.out).1 | with_reducible exact (bcell K5.out).1 | with_reducible exact (bcell K6.out).1)
    (first
      | (go_at_call_of 49 A; (with_reducible refine (ZX.out _ (LD.out.get (A := A) (c := c) (xs := digs m.natAbs) (by simp))).mono ?_); rintro e w5 ⟨rfl, hb⟩; (have K5 := bt KD hb); (have L5 := Lib.hid (LD.out.step hb)); clear hb )
      | (go_at_call_of 49 B; (with_reducible refine (ZY.out _ (L5.out.get (A := B) (c := d) (xs := digs n.natAbs) (by simp))).mono ?_); rintro e w6 ⟨rfl, hb⟩; (have K6 := bt K5 hb); (have L6 := Lib.hid (L5.out.step hb)); clear hb ))
  rename_i hHeld
  clear hHeld
  clear fx0 zx0 fx1 zx1 fx2 zx2 xx fy0 zy0 fy1 zy1 fy2 zy2 xy
  have Rx_6 := co Rx_3 K6.out
  have Ry_6 := co Ry_3 K6.out
  clear KD LD
  obtain ⟨fx0, zx0, fx1, zx1, fx2, zx2, xx⟩ := ly3 Rx_6.out
  obtain ⟨fy0, zy0, fy1, zy1, fy2, zy2, xy⟩ := ly3 Ry_6.out
  go_wp2_with fail
  clear fx0 zx0 fx1 zx1 fx2 zx2 xx fy0 zy0 fy1 zy1 fy2 zy2 xy
  obtain ⟨fx0, zx0, fx1, zx1, fx2, zx2, xx⟩ := ly3 Rx_6.out
  obtain ⟨fy0, zy0, fy1, zy1, fy2, zy2, xy⟩ := ly3 Ry_6.out
  have KD := Lib.hid (bd0 w6)
  have LD := ls L6 KD.out
  go_region_held3 (fun w' => ∀ b o, b < w6.heap.size → w'.cell? ⟨b, o, none⟩ = w6.cell? ⟨b, o, none⟩)
    (first | with_reducible exact (bcell KD.out).1 | with_reducible exact (bcell K8.out).1 | with_reducible exact (bcell K9.out).1)
    (first
      | (go_at_call_of 49 A; (with_reducible refine (ZX.out _ (LD.out.get (A := A) (c := c) (xs := digs m.natAbs) (by simp))).mono ?_); rintro e w8 ⟨rfl, hb⟩; (have K8 := bt KD hb); (have L8 := Lib.hid (LD.out.step hb)); clear hb )
      | (go_at_call_of 49 B; (with_reducible refine (ZY.out _ (L8.out.get (A := B) (c := d) (xs := digs n.natAbs) (by simp))).mono ?_); rintro e w9 ⟨rfl, hb⟩; (have K9 := bt K8 hb); (have L9 := Lib.hid (L8.out.step hb)); clear hb ))
  rename_i hHeld
  clear hHeld
  clear fx0 zx0 fx1 zx1 fx2 zx2 xx fy0 zy0 fy1 zy1 fy2 zy2 xy
  have Rx_9 := co Rx_6 K9.out
  have Ry_9 := co Ry_6 K9.out
  clear KD LD
  go_wp2
  go_ret
  exact ⟨rfl, L9.out.1⟩

set_option maxHeartbeats 4000000 in
set_option maxRecDepth 100000 in
theorem r5cmp_ff_gt (A B : Option Addr) (c d : Nat) (m n x y : Int) (w : World) (h : Dg w A c (digs m.natAbs)) (h' : Dg w B d (digs n.natAbs)) (hl : (digs m.natAbs).length ≤ 10000) (hl' : (digs n.natAbs).length ≤ 10000) (r1 : Rt m x) (r2 : Rt n y) (hs : decide (m < 0) = false) (hr : decide (n < 0) = false) {q : Int} (hq : cmpd (dv m x) (dv n y) = q) (m0 : m ≠ 0) (n0 : n ≠ 0) (hc : y + bl n < x + bl m):
    Calls Tryd.prog 20 #[.agg #[.bool false, .slice A (digs m.natAbs).length c, .int .i64 x], .agg #[.bool false, .slice B (digs n.natAbs).length d, .int .i64 y]] w fun e w' => e = .returned (.int .i64 q) ∧ Below w.heap.size w w' := by
  have x0 := r1.2.1
  have x1 := r1.2.2
  have y0 := r2.2.1
  have y1 := r2.2.2
  have dx := fun (W : World) (hW : Dg W A c (digs m.natAbs)) => r5right_t (w := W) hW hl r1
  have dy := fun (W : World) (hW : Dg W B d (digs n.natAbs)) => r5right_t (w := W) hW hl' r2
  simp only [hs] at dx
  simp only [hr] at dy
  have DX := Lib.hid dx
  have DY := Lib.hid dy
  have lx := Lib.hid hl
  have ly := Lib.hid hl'
  have SX := Lib.hid (sg_of _ hs)
  have SY := Lib.hid (sg_of _ hr)
  have t1 : ((((digs m.natAbs).length : Nat) : Int) == 0) = false := beq_eq_false_iff_ne.2 (fun e => m0 (by have := digs_nil.1 (show (digs m.natAbs).length = 0 by omega); omega))
  have t2 : ((((digs n.natAbs).length : Nat) : Int) == 0) = false := beq_eq_false_iff_ne.2 (fun e => n0 (by have := digs_nil.1 (show (digs n.natAbs).length = 0 by omega); omega))
  have hsn : Int.sign m = Int.sign n := by have a := sign_three m; have b := sign_three n; simp at hs hr; omega
  have hz := cmp_sz hsn r1.1 r2.1 (by omega)
  rw [hq, hs, decide_eq_false (show ¬ x + bl m < y + bl n by omega)] at hz
  obtain rfl : q = 1 := by
    rcases hz with h1 | h1
    · rw [← h1]; rfl
    · exact absurd h1 m0
  obtain ⟨s1, hs1⟩ : ∃ v : Int, x + bl m = v := ⟨_, rfl⟩
  obtain ⟨s2, hs2⟩ : ∃ v : Int, y + bl n = v := ⟨_, rfl⟩
  rw [hs1, hs2] at hc
  have sx := fun (W : World) (hW : Dg W A c (digs m.natAbs)) => r5size_any A c m x s1 W hW (Nat.le_trans hl (by omega)) (by omega) (by omega) hs1
  have sy := fun (W : World) (hW : Dg W B d (digs n.natAbs)) => r5size_any B d n y s2 W hW (Nat.le_trans hl' (by omega)) (by omega) (by omega) hs2
  simp only [hs] at sx
  simp only [hr] at sy
  have ZX := Lib.hid sx
  have ZY := Lib.hid sy
  have d0 : (s1 == s2) = false := by simp; omega
  have d0' : (s1 != s2) = true := by simp; omega
  have d1 : decide (s1 < s2) = false := by simp; omega
  have L0 := Lib.hid (((live_start w).add h).add h')
  clear h h' hl hl' r1 r2 dx dy hs hr hq hsn hz m0 n0 hc hs1 hs2 sx sy
  go_enter Tryd.func20, Tryd.ntmps20
  go_wp2_with fail
  obtain ⟨v1, hW, hb, Rx_1, Ry_1⟩ := new2 w (.cells #[.bool false, .slice A (digs m.natAbs).length c, .int .i64 x] 26) (.cells #[.bool false, .slice B (digs n.natAbs).length d, .int .i64 y] 26)
  rw [← hW]
  have L1 := ls L0 hb
  have Gx := gl0 L0.out
  have Gy := gl1 L0.out
  have Nxy : w.heap.size < w.heap.size + 1 := by omega
  clear hW hb
  refine (DX.out _ (L1.out.get (A := A) (c := c) (xs := digs m.natAbs) (by simp))).mono ?_
  rintro e w2 ⟨rfl, hb⟩
  have L2 := ls L1 hb
  have Rx_2 := co Rx_1 hb
  have Ry_2 := co Ry_1 hb
  clear hb 
  obtain ⟨fx0, zx0, fx1, zx1, fx2, zx2, xx⟩ := ly3 Rx_2.out
  obtain ⟨fy0, zy0, fy1, zy1, fy2, zy2, xy⟩ := ly3 Ry_2.out
  go_wp2_with fail
  refine (DY.out _ (L2.out.get (A := B) (c := d) (xs := digs n.natAbs) (by simp))).mono ?_
  rintro e w3 ⟨rfl, hb⟩
  have L3 := ls L2 hb
  clear fx0 zx0 fx1 zx1 fx2 zx2 xx fy0 zy0 fy1 zy1 fy2 zy2 xy
  have Rx_3 := co Rx_2 hb
  have Ry_3 := co Ry_2 hb
  clear hb 
  obtain ⟨fx0, zx0, fx1, zx1, fx2, zx2, xx⟩ := ly3 Rx_3.out
  obtain ⟨fy0, zy0, fy1, zy1, fy2, zy2, xy⟩ := ly3 Ry_3.out
  go_wp2_with fail
  clear fx0 zx0 fx1 zx1 fx2 zx2 xx fy0 zy0 fy1 zy1 fy2 zy2 xy
  obtain ⟨fx0, zx0, fx1, zx1, fx2, zx2, xx⟩ := ly3 Rx_3.out
  obtain ⟨fy0, zy0, fy1, zy1, fy2, zy2, xy⟩ := ly3 Ry_3.out
  have KD := Lib.hid (bd0 w3)
  have LD := ls L3 KD.out
  go_region_held3 (fun w' => ∀ b o, b < w3.heap.size → w'.cell? ⟨b, o, none⟩ = w3.cell? ⟨b, o, none⟩)
    (first | with_reducible exact (bcell KD.out).1 | with_reducible exact (bcell K5.out).1 | with_reducible exact (bcell K6.out).1)
    (first
      | (go_at_call_of 49 A; (with_reducible refine (ZX.out _ (LD.out.get (A := A) (c := c) (xs := digs m.natAbs) (by simp))).mono ?_); rintro e w5 ⟨rfl, hb⟩; (have K5 := bt KD hb); (have L5 := Lib.hid (LD.out.step hb)); clear hb )
      | (go_at_call_of 49 B; (with_reducible refine (ZY.out _ (L5.out.get (A := B) (c := d) (xs := digs n.natAbs) (by simp))).mono ?_); rintro e w6 ⟨rfl, hb⟩; (have K6 := bt K5 hb); (have L6 := Lib.hid (L5.out.step hb)); clear hb ))
  rename_i hHeld
  clear hHeld
  clear fx0 zx0 fx1 zx1 fx2 zx2 xx fy0 zy0 fy1 zy1 fy2 zy2 xy
  have Rx_6 := co Rx_3 K6.out
  have Ry_6 := co Ry_3 K6.out
  clear KD LD
  obtain ⟨fx0, zx0, fx1, zx1, fx2, zx2, xx⟩ := ly3 Rx_6.out
  obtain ⟨fy0, zy0, fy1, zy1, fy2, zy2, xy⟩ := ly3 Ry_6.out
  go_wp2_with fail
  clear fx0 zx0 fx1 zx1 fx2 zx2 xx fy0 zy0 fy1 zy1 fy2 zy2 xy
  obtain ⟨fx0, zx0, fx1, zx1, fx2, zx2, xx⟩ := ly3 Rx_6.out
  obtain ⟨fy0, zy0, fy1, zy1, fy2, zy2, xy⟩ := ly3 Ry_6.out
  have KD := Lib.hid (bd0 w6)
  have LD := ls L6 KD.out
  go_region_held3 (fun w' => ∀ b o, b < w6.heap.size → w'.cell? ⟨b, o, none⟩ = w6.cell? ⟨b, o, none⟩)
    (first | with_reducible exact (bcell KD.out).1 | with_reducible exact (bcell K8.out).1 | with_reducible exact (bcell K9.out).1)
    (first
      | (go_at_call_of 49 A; (with_reducible refine (ZX.out _ (LD.out.get (A := A) (c := c) (xs := digs m.natAbs) (by simp))).mono ?_); rintro e w8 ⟨rfl, hb⟩; (have K8 := bt KD hb); (have L8 := Lib.hid (LD.out.step hb)); clear hb )
      | (go_at_call_of 49 B; (with_reducible refine (ZY.out _ (L8.out.get (A := B) (c := d) (xs := digs n.natAbs) (by simp))).mono ?_); rintro e w9 ⟨rfl, hb⟩; (have K9 := bt K8 hb); (have L9 := Lib.hid (L8.out.step hb)); clear hb ))
  rename_i hHeld
  clear hHeld
  clear fx0 zx0 fx1 zx1 fx2 zx2 xx fy0 zy0 fy1 zy1 fy2 zy2 xy
  have Rx_9 := co Rx_6 K9.out
  have Ry_9 := co Ry_6 K9.out
  clear KD LD
  go_wp2
  go_ret
  exact ⟨rfl, L9.out.1⟩

set_option maxHeartbeats 4000000 in
set_option maxRecDepth 100000 in
theorem r5cmp_ff_eq (A B : Option Addr) (c d : Nat) (m n x y : Int) (w : World) (h : Dg w A c (digs m.natAbs)) (h' : Dg w B d (digs n.natAbs)) (hl : (digs m.natAbs).length ≤ 10000) (hl' : (digs n.natAbs).length ≤ 10000) (r1 : Rt m x) (r2 : Rt n y) (hs : decide (m < 0) = false) (hr : decide (n < 0) = false) {q : Int} (hq : cmpd (dv m x) (dv n y) = q) (m0 : m ≠ 0) (n0 : n ≠ 0) (hc : x + bl m = y + bl n):
    Calls Tryd.prog 20 #[.agg #[.bool false, .slice A (digs m.natAbs).length c, .int .i64 x], .agg #[.bool false, .slice B (digs n.natAbs).length d, .int .i64 y]] w fun e w' => e = .returned (.int .i64 q) ∧ Below w.heap.size w w' := by
  have x0 := r1.2.1
  have x1 := r1.2.2
  have y0 := r2.2.1
  have y1 := r2.2.2
  have dx := fun (W : World) (hW : Dg W A c (digs m.natAbs)) => r5right_t (w := W) hW hl r1
  have dy := fun (W : World) (hW : Dg W B d (digs n.natAbs)) => r5right_t (w := W) hW hl' r2
  simp only [hs] at dx
  simp only [hr] at dy
  have DX := Lib.hid dx
  have DY := Lib.hid dy
  have lx := Lib.hid hl
  have ly := Lib.hid hl'
  have SX := Lib.hid (sg_of _ hs)
  have SY := Lib.hid (sg_of _ hr)
  have t1 : ((((digs m.natAbs).length : Nat) : Int) == 0) = false := beq_eq_false_iff_ne.2 (fun e => m0 (by have := digs_nil.1 (show (digs m.natAbs).length = 0 by omega); omega))
  have t2 : ((((digs n.natAbs).length : Nat) : Int) == 0) = false := beq_eq_false_iff_ne.2 (fun e => n0 (by have := digs_nil.1 (show (digs n.natAbs).length = 0 by omega); omega))
  obtain ⟨e0, he0⟩ : ∃ e, min x y = e := ⟨_, rfl⟩
  obtain ⟨p, hp⟩ : ∃ e, upto m x e0 = e := ⟨_, rfl⟩
  obtain ⟨t, ht⟩ : ∃ e, upto n y e0 = e := ⟨_, rfl⟩
  have HQ := Lib.hid (show Int.sign (p - t) = q by rw [← hq]; exact cmp_up he0 hp ht)
  have lp := upto_len2 (m := m) (x := x) (e0 := e0) hl (by omega)
  have lq := upto_len2 (m := n) (x := y) (e0 := e0) hl' (by omega)
  rw [hp] at lp
  rw [ht] at lq
  have LP := Lib.hid lp
  have LQ := Lib.hid lq
  have lf := fun (W : World) (h1 : Dg W A c (digs m.natAbs)) (h2 : Dg W B d (digs n.natAbs)) => r5lift_any (w := W) h1 h2 hl hl' x0 x1 y0 y1 m0 n0 he0 hp ht
  simp only [hs, hr] at lf
  have LF := Lib.hid lf
  obtain ⟨s1, hs1⟩ : ∃ v : Int, x + bl m = v := ⟨_, rfl⟩
  obtain ⟨s2, hs2⟩ : ∃ v : Int, y + bl n = v := ⟨_, rfl⟩
  rw [hs1, hs2] at hc
  have sx := fun (W : World) (hW : Dg W A c (digs m.natAbs)) => r5size_any A c m x s1 W hW (Nat.le_trans hl (by omega)) (by omega) (by omega) hs1
  have sy := fun (W : World) (hW : Dg W B d (digs n.natAbs)) => r5size_any B d n y s2 W hW (Nat.le_trans hl' (by omega)) (by omega) (by omega) hs2
  simp only [hs] at sx
  simp only [hr] at sy
  have ZX := Lib.hid sx
  have ZY := Lib.hid sy
  have d0 : (s1 == s2) = true := by simp; omega
  have d0' : (s1 != s2) = false := by simp; omega
  have L0 := Lib.hid (((live_start w).add h).add h')
  clear h h' hl hl' r1 r2 dx dy hs hr hq m0 n0 he0 hp ht lp lq lf hc hs1 hs2 sx sy
  go_enter Tryd.func20, Tryd.ntmps20
  go_wp2_with fail
  obtain ⟨v1, hW, hb, Rx_1, Ry_1⟩ := new2 w (.cells #[.bool false, .slice A (digs m.natAbs).length c, .int .i64 x] 26) (.cells #[.bool false, .slice B (digs n.natAbs).length d, .int .i64 y] 26)
  rw [← hW]
  have L1 := ls L0 hb
  have Gx := gl0 L0.out
  have Gy := gl1 L0.out
  have Nxy : w.heap.size < w.heap.size + 1 := by omega
  clear hW hb
  refine (DX.out _ (L1.out.get (A := A) (c := c) (xs := digs m.natAbs) (by simp))).mono ?_
  rintro e w2 ⟨rfl, hb⟩
  have L2 := ls L1 hb
  have Rx_2 := co Rx_1 hb
  have Ry_2 := co Ry_1 hb
  clear hb 
  obtain ⟨fx0, zx0, fx1, zx1, fx2, zx2, xx⟩ := ly3 Rx_2.out
  obtain ⟨fy0, zy0, fy1, zy1, fy2, zy2, xy⟩ := ly3 Ry_2.out
  go_wp2_with fail
  refine (DY.out _ (L2.out.get (A := B) (c := d) (xs := digs n.natAbs) (by simp))).mono ?_
  rintro e w3 ⟨rfl, hb⟩
  have L3 := ls L2 hb
  clear fx0 zx0 fx1 zx1 fx2 zx2 xx fy0 zy0 fy1 zy1 fy2 zy2 xy
  have Rx_3 := co Rx_2 hb
  have Ry_3 := co Ry_2 hb
  clear hb 
  obtain ⟨fx0, zx0, fx1, zx1, fx2, zx2, xx⟩ := ly3 Rx_3.out
  obtain ⟨fy0, zy0, fy1, zy1, fy2, zy2, xy⟩ := ly3 Ry_3.out
  go_wp2_with fail
  clear fx0 zx0 fx1 zx1 fx2 zx2 xx fy0 zy0 fy1 zy1 fy2 zy2 xy
  obtain ⟨fx0, zx0, fx1, zx1, fx2, zx2, xx⟩ := ly3 Rx_3.out
  obtain ⟨fy0, zy0, fy1, zy1, fy2, zy2, xy⟩ := ly3 Ry_3.out
  have KD := Lib.hid (bd0 w3)
  have LD := ls L3 KD.out
  go_region_held3 (fun w' => ∀ b o, b < w3.heap.size → w'.cell? ⟨b, o, none⟩ = w3.cell? ⟨b, o, none⟩)
    (first | with_reducible exact (bcell KD.out).1 | with_reducible exact (bcell K5.out).1 | with_reducible exact (bcell K6.out).1)
    (first
      | (go_at_call_of 49 A; (with_reducible refine (ZX.out _ (LD.out.get (A := A) (c := c) (xs := digs m.natAbs) (by simp))).mono ?_); rintro e w5 ⟨rfl, hb⟩; (have K5 := bt KD hb); (have L5 := Lib.hid (LD.out.step hb)); clear hb )
      | (go_at_call_of 49 B; (with_reducible refine (ZY.out _ (L5.out.get (A := B) (c := d) (xs := digs n.natAbs) (by simp))).mono ?_); rintro e w6 ⟨rfl, hb⟩; (have K6 := bt K5 hb); (have L6 := Lib.hid (L5.out.step hb)); clear hb ))
  rename_i hHeld
  clear hHeld
  clear fx0 zx0 fx1 zx1 fx2 zx2 xx fy0 zy0 fy1 zy1 fy2 zy2 xy
  have Rx_6 := co Rx_3 K6.out
  have Ry_6 := co Ry_3 K6.out
  clear KD LD
  clear d0 d0'
  obtain ⟨fx0, zx0, fx1, zx1, fx2, zx2, xx⟩ := ly3 Rx_6.out
  obtain ⟨fy0, zy0, fy1, zy1, fy2, zy2, xy⟩ := ly3 Ry_6.out
  go_wp2_with fail
  refine (LF.out _ (L6.out.get (A := A) (c := c) (xs := digs m.natAbs) (by simp)) (L6.out.get (A := B) (c := d) (xs := digs n.natAbs) (by simp))).mono ?_
  rintro e w7 ⟨A7, c7, B7, d7, rfl, hd, hd', hb⟩
  have L7 := Lib.hid (((L6.out.step hb).add hd).add hd')
  clear fx0 zx0 fx1 zx1 fx2 zx2 xx fy0 zy0 fy1 zy1 fy2 zy2 xy
  have Rx_7 := co Rx_6 hb
  have Ry_7 := co Ry_6 hb
  clear hb hd hd'
  go_wp2_with fail
  obtain ⟨w8, hW, hb, Ra_8, Rb_8⟩ := new2 w7 (.cells #[.bool (decide (p < 0)), .slice A7 (digs p.natAbs).length c7] 24) (.cells #[.bool (decide (t < 0)), .slice B7 (digs t.natAbs).length d7] 24)
  rw [← hW]
  have L8 := ls L7 hb
  have Rx_8 := co Rx_7 hb
  have Ry_8 := co Ry_7 hb
  have Ga := gl0 L7.out
  have Nxa := nl0 Rx_7.out
  have Nya := nl0 Ry_7.out
  have Gb := gl1 L7.out
  have Nxb := nl1 Rx_7.out
  have Nyb := nl1 Ry_7.out
  have Nab : w7.heap.size < w7.heap.size + 1 := by omega
  clear hW hb
  refine (rzcmp_j (L8.out.get (A := A7) (c := c7) (xs := digs p.natAbs) (by simp)) (L8.out.get (A := B7) (c := d7) (xs := digs t.natAbs) (by simp)) (sg_of _ rfl) (sg_of _ rfl) (Nat.le_trans LP.out (by omega)) (Nat.le_trans LQ.out (by omega)) HQ.out).mono ?_
  rintro e w9 ⟨rfl, hb⟩
  have L9 := ls L8 hb
  have Rx_9 := co Rx_8 hb
  have Ry_9 := co Ry_8 hb
  have Ra_9 := co Ra_8 hb
  have Rb_9 := co Rb_8 hb
  clear hb 
  go_wp2
  go_ret
  exact ⟨rfl, L9.out.1⟩

set_option maxHeartbeats 4000000 in
set_option maxRecDepth 100000 in
theorem r5cmp_ft_far (A B : Option Addr) (c d : Nat) (m n x y : Int) (w : World) (h : Dg w A c (digs m.natAbs)) (h' : Dg w B d (digs n.natAbs)) (hl : (digs m.natAbs).length ≤ 10000) (hl' : (digs n.natAbs).length ≤ 10000) (r1 : Rt m x) (r2 : Rt n y) (hs : decide (m < 0) = false) (hr : decide (n < 0) = true) {q : Int} (hq : cmpd (dv m x) (dv n y) = q):
    Calls Tryd.prog 20 #[.agg #[.bool false, .slice A (digs m.natAbs).length c, .int .i64 x], .agg #[.bool true, .slice B (digs n.natAbs).length d, .int .i64 y]] w fun e w' => e = .returned (.int .i64 q) ∧ Below w.heap.size w w' := by
  have x0 := r1.2.1
  have x1 := r1.2.2
  have y0 := r2.2.1
  have y1 := r2.2.2
  have dx := fun (W : World) (hW : Dg W A c (digs m.natAbs)) => r5right_t (w := W) hW hl r1
  have dy := fun (W : World) (hW : Dg W B d (digs n.natAbs)) => r5right_t (w := W) hW hl' r2
  simp only [hs] at dx
  simp only [hr] at dy
  have DX := Lib.hid dx
  have DY := Lib.hid dy
  have lx := Lib.hid hl
  have ly := Lib.hid hl'
  have SX := Lib.hid (sg_of _ hs)
  have SY := Lib.hid (sg_of _ hr)
  have HQ := Lib.hid (show Int.sign (m - n) = q by rw [← hq]; exact cmp_sign (by simp at hs hr; omega))
  have L0 := Lib.hid (((live_start w).add h).add h')
  clear h h' hl hl' r1 r2 dx dy hs hr hq
  go_enter Tryd.func20, Tryd.ntmps20
  go_wp2_with fail
  obtain ⟨v1, hW, hb, Rx_1, Ry_1⟩ := new2 w (.cells #[.bool false, .slice A (digs m.natAbs).length c, .int .i64 x] 26) (.cells #[.bool true, .slice B (digs n.natAbs).length d, .int .i64 y] 26)
  rw [← hW]
  have L1 := ls L0 hb
  have Gx := gl0 L0.out
  have Gy := gl1 L0.out
  have Nxy : w.heap.size < w.heap.size + 1 := by omega
  clear hW hb
  refine (DX.out _ (L1.out.get (A := A) (c := c) (xs := digs m.natAbs) (by simp))).mono ?_
  rintro e w2 ⟨rfl, hb⟩
  have L2 := ls L1 hb
  have Rx_2 := co Rx_1 hb
  have Ry_2 := co Ry_1 hb
  clear hb 
  obtain ⟨fx0, zx0, fx1, zx1, fx2, zx2, xx⟩ := ly3 Rx_2.out
  obtain ⟨fy0, zy0, fy1, zy1, fy2, zy2, xy⟩ := ly3 Ry_2.out
  go_wp2_with fail
  refine (DY.out _ (L2.out.get (A := B) (c := d) (xs := digs n.natAbs) (by simp))).mono ?_
  rintro e w3 ⟨rfl, hb⟩
  have L3 := ls L2 hb
  clear fx0 zx0 fx1 zx1 fx2 zx2 xx fy0 zy0 fy1 zy1 fy2 zy2 xy
  have Rx_3 := co Rx_2 hb
  have Ry_3 := co Ry_2 hb
  clear hb 
  obtain ⟨fx0, zx0, fx1, zx1, fx2, zx2, xx⟩ := ly3 Rx_3.out
  obtain ⟨fy0, zy0, fy1, zy1, fy2, zy2, xy⟩ := ly3 Ry_3.out
  go_wp2_with fail
  refine (rzcmp_j (L3.out.get (A := A) (c := c) (xs := digs m.natAbs) (by simp)) (L3.out.get (A := B) (c := d) (xs := digs n.natAbs) (by simp)) SX.out SY.out (Nat.le_trans lx.out (by omega)) (Nat.le_trans ly.out (by omega)) HQ.out).mono ?_
  rintro e w4 ⟨rfl, hb⟩
  have L4 := ls L3 hb
  clear fx0 zx0 fx1 zx1 fx2 zx2 xx fy0 zy0 fy1 zy1 fy2 zy2 xy
  have Rx_4 := co Rx_3 hb
  have Ry_4 := co Ry_3 hb
  clear hb 
  go_wp2
  go_ret
  exact ⟨rfl, L4.out.1⟩

set_option maxHeartbeats 4000000 in
set_option maxRecDepth 100000 in
theorem r5cmp_tf_far (A B : Option Addr) (c d : Nat) (m n x y : Int) (w : World) (h : Dg w A c (digs m.natAbs)) (h' : Dg w B d (digs n.natAbs)) (hl : (digs m.natAbs).length ≤ 10000) (hl' : (digs n.natAbs).length ≤ 10000) (r1 : Rt m x) (r2 : Rt n y) (hs : decide (m < 0) = true) (hr : decide (n < 0) = false) {q : Int} (hq : cmpd (dv m x) (dv n y) = q):
    Calls Tryd.prog 20 #[.agg #[.bool true, .slice A (digs m.natAbs).length c, .int .i64 x], .agg #[.bool false, .slice B (digs n.natAbs).length d, .int .i64 y]] w fun e w' => e = .returned (.int .i64 q) ∧ Below w.heap.size w w' := by
  have x0 := r1.2.1
  have x1 := r1.2.2
  have y0 := r2.2.1
  have y1 := r2.2.2
  have dx := fun (W : World) (hW : Dg W A c (digs m.natAbs)) => r5right_t (w := W) hW hl r1
  have dy := fun (W : World) (hW : Dg W B d (digs n.natAbs)) => r5right_t (w := W) hW hl' r2
  simp only [hs] at dx
  simp only [hr] at dy
  have DX := Lib.hid dx
  have DY := Lib.hid dy
  have lx := Lib.hid hl
  have ly := Lib.hid hl'
  have SX := Lib.hid (sg_of _ hs)
  have SY := Lib.hid (sg_of _ hr)
  have HQ := Lib.hid (show Int.sign (m - n) = q by rw [← hq]; exact cmp_sign (by simp at hs hr; omega))
  have L0 := Lib.hid (((live_start w).add h).add h')
  clear h h' hl hl' r1 r2 dx dy hs hr hq
  go_enter Tryd.func20, Tryd.ntmps20
  go_wp2_with fail
  obtain ⟨v1, hW, hb, Rx_1, Ry_1⟩ := new2 w (.cells #[.bool true, .slice A (digs m.natAbs).length c, .int .i64 x] 26) (.cells #[.bool false, .slice B (digs n.natAbs).length d, .int .i64 y] 26)
  rw [← hW]
  have L1 := ls L0 hb
  have Gx := gl0 L0.out
  have Gy := gl1 L0.out
  have Nxy : w.heap.size < w.heap.size + 1 := by omega
  clear hW hb
  refine (DX.out _ (L1.out.get (A := A) (c := c) (xs := digs m.natAbs) (by simp))).mono ?_
  rintro e w2 ⟨rfl, hb⟩
  have L2 := ls L1 hb
  have Rx_2 := co Rx_1 hb
  have Ry_2 := co Ry_1 hb
  clear hb 
  obtain ⟨fx0, zx0, fx1, zx1, fx2, zx2, xx⟩ := ly3 Rx_2.out
  obtain ⟨fy0, zy0, fy1, zy1, fy2, zy2, xy⟩ := ly3 Ry_2.out
  go_wp2_with fail
  refine (DY.out _ (L2.out.get (A := B) (c := d) (xs := digs n.natAbs) (by simp))).mono ?_
  rintro e w3 ⟨rfl, hb⟩
  have L3 := ls L2 hb
  clear fx0 zx0 fx1 zx1 fx2 zx2 xx fy0 zy0 fy1 zy1 fy2 zy2 xy
  have Rx_3 := co Rx_2 hb
  have Ry_3 := co Ry_2 hb
  clear hb 
  obtain ⟨fx0, zx0, fx1, zx1, fx2, zx2, xx⟩ := ly3 Rx_3.out
  obtain ⟨fy0, zy0, fy1, zy1, fy2, zy2, xy⟩ := ly3 Ry_3.out
  go_wp2_with fail
  refine (rzcmp_j (L3.out.get (A := A) (c := c) (xs := digs m.natAbs) (by simp)) (L3.out.get (A := B) (c := d) (xs := digs n.natAbs) (by simp)) SX.out SY.out (Nat.le_trans lx.out (by omega)) (Nat.le_trans ly.out (by omega)) HQ.out).mono ?_
  rintro e w4 ⟨rfl, hb⟩
  have L4 := ls L3 hb
  clear fx0 zx0 fx1 zx1 fx2 zx2 xx fy0 zy0 fy1 zy1 fy2 zy2 xy
  have Rx_4 := co Rx_3 hb
  have Ry_4 := co Ry_3 hb
  clear hb 
  go_wp2
  go_ret
  exact ⟨rfl, L4.out.1⟩

set_option maxHeartbeats 4000000 in
set_option maxRecDepth 100000 in
theorem r5cmp_tt_lt (A B : Option Addr) (c d : Nat) (m n x y : Int) (w : World) (h : Dg w A c (digs m.natAbs)) (h' : Dg w B d (digs n.natAbs)) (hl : (digs m.natAbs).length ≤ 10000) (hl' : (digs n.natAbs).length ≤ 10000) (r1 : Rt m x) (r2 : Rt n y) (hs : decide (m < 0) = true) (hr : decide (n < 0) = true) {q : Int} (hq : cmpd (dv m x) (dv n y) = q) (m0 : m ≠ 0) (n0 : n ≠ 0) (hc : x + bl m < y + bl n):
    Calls Tryd.prog 20 #[.agg #[.bool true, .slice A (digs m.natAbs).length c, .int .i64 x], .agg #[.bool true, .slice B (digs n.natAbs).length d, .int .i64 y]] w fun e w' => e = .returned (.int .i64 q) ∧ Below w.heap.size w w' := by
  have x0 := r1.2.1
  have x1 := r1.2.2
  have y0 := r2.2.1
  have y1 := r2.2.2
  have dx := fun (W : World) (hW : Dg W A c (digs m.natAbs)) => r5right_t (w := W) hW hl r1
  have dy := fun (W : World) (hW : Dg W B d (digs n.natAbs)) => r5right_t (w := W) hW hl' r2
  simp only [hs] at dx
  simp only [hr] at dy
  have DX := Lib.hid dx
  have DY := Lib.hid dy
  have lx := Lib.hid hl
  have ly := Lib.hid hl'
  have SX := Lib.hid (sg_of _ hs)
  have SY := Lib.hid (sg_of _ hr)
  have t1 : ((((digs m.natAbs).length : Nat) : Int) == 0) = false := beq_eq_false_iff_ne.2 (fun e => m0 (by have := digs_nil.1 (show (digs m.natAbs).length = 0 by omega); omega))
  have t2 : ((((digs n.natAbs).length : Nat) : Int) == 0) = false := beq_eq_false_iff_ne.2 (fun e => n0 (by have := digs_nil.1 (show (digs n.natAbs).length = 0 by omega); omega))
  have hsn : Int.sign m = Int.sign n := by have a := sign_three m; have b := sign_three n; simp at hs hr; omega
  have hz := cmp_sz hsn r1.1 r2.1 (by omega)
  rw [hq, hs, decide_eq_true (show  x + bl m < y + bl n by omega)] at hz
  obtain rfl : q = 1 := by
    rcases hz with h1 | h1
    · rw [← h1]; rfl
    · exact absurd h1 m0
  obtain ⟨s1, hs1⟩ : ∃ v : Int, x + bl m = v := ⟨_, rfl⟩
  obtain ⟨s2, hs2⟩ : ∃ v : Int, y + bl n = v := ⟨_, rfl⟩
  rw [hs1, hs2] at hc
  have sx := fun (W : World) (hW : Dg W A c (digs m.natAbs)) => r5size_any A c m x s1 W hW (Nat.le_trans hl (by omega)) (by omega) (by omega) hs1
  have sy := fun (W : World) (hW : Dg W B d (digs n.natAbs)) => r5size_any B d n y s2 W hW (Nat.le_trans hl' (by omega)) (by omega) (by omega) hs2
  simp only [hs] at sx
  simp only [hr] at sy
  have ZX := Lib.hid sx
  have ZY := Lib.hid sy
  have d0 : (s1 == s2) = false := by simp; omega
  have d0' : (s1 != s2) = true := by simp; omega
  have d1 : decide (s1 < s2) = true := by simp; omega
  have L0 := Lib.hid (((live_start w).add h).add h')
  clear h h' hl hl' r1 r2 dx dy hs hr hq hsn hz m0 n0 hc hs1 hs2 sx sy
  go_enter Tryd.func20, Tryd.ntmps20
  go_wp2_with fail
  obtain ⟨v1, hW, hb, Rx_1, Ry_1⟩ := new2 w (.cells #[.bool true, .slice A (digs m.natAbs).length c, .int .i64 x] 26) (.cells #[.bool true, .slice B (digs n.natAbs).length d, .int .i64 y] 26)
  rw [← hW]
  have L1 := ls L0 hb
  have Gx := gl0 L0.out
  have Gy := gl1 L0.out
  have Nxy : w.heap.size < w.heap.size + 1 := by omega
  clear hW hb
  refine (DX.out _ (L1.out.get (A := A) (c := c) (xs := digs m.natAbs) (by simp))).mono ?_
  rintro e w2 ⟨rfl, hb⟩
  have L2 := ls L1 hb
  have Rx_2 := co Rx_1 hb
  have Ry_2 := co Ry_1 hb
  clear hb 
  obtain ⟨fx0, zx0, fx1, zx1, fx2, zx2, xx⟩ := ly3 Rx_2.out
  obtain ⟨fy0, zy0, fy1, zy1, fy2, zy2, xy⟩ := ly3 Ry_2.out
  go_wp2_with fail
  refine (DY.out _ (L2.out.get (A := B) (c := d) (xs := digs n.natAbs) (by simp))).mono ?_
  rintro e w3 ⟨rfl, hb⟩
  have L3 := ls L2 hb
  clear fx0 zx0 fx1 zx1 fx2 zx2 xx fy0 zy0 fy1 zy1 fy2 zy2 xy
  have Rx_3 := co Rx_2 hb
  have Ry_3 := co Ry_2 hb
  clear hb 
  obtain ⟨fx0, zx0, fx1, zx1, fx2, zx2, xx⟩ := ly3 Rx_3.out
  obtain ⟨fy0, zy0, fy1, zy1, fy2, zy2, xy⟩ := ly3 Ry_3.out
  go_wp2_with fail
  clear fx0 zx0 fx1 zx1 fx2 zx2 xx fy0 zy0 fy1 zy1 fy2 zy2 xy
  obtain ⟨fx0, zx0, fx1, zx1, fx2, zx2, xx⟩ := ly3 Rx_3.out
  obtain ⟨fy0, zy0, fy1, zy1, fy2, zy2, xy⟩ := ly3 Ry_3.out
  have KD := Lib.hid (bd0 w3)
  have LD := ls L3 KD.out
  go_region_held3 (fun w' => ∀ b o, b < w3.heap.size → w'.cell? ⟨b, o, none⟩ = w3.cell? ⟨b, o, none⟩)
    (first | with_reducible exact (bcell KD.out).1 | with_reducible exact (bcell K5.out).1 | with_reducible exact (bcell K6.out).1)
    (first
      | (go_at_call_of 49 A; (with_reducible refine (ZX.out _ (LD.out.get (A := A) (c := c) (xs := digs m.natAbs) (by simp))).mono ?_); rintro e w5 ⟨rfl, hb⟩; (have K5 := bt KD hb); (have L5 := Lib.hid (LD.out.step hb)); clear hb )
      | (go_at_call_of 49 B; (with_reducible refine (ZY.out _ (L5.out.get (A := B) (c := d) (xs := digs n.natAbs) (by simp))).mono ?_); rintro e w6 ⟨rfl, hb⟩; (have K6 := bt K5 hb); (have L6 := Lib.hid (L5.out.step hb)); clear hb ))
  rename_i hHeld
  clear hHeld
  clear fx0 zx0 fx1 zx1 fx2 zx2 xx fy0 zy0 fy1 zy1 fy2 zy2 xy
  have Rx_6 := co Rx_3 K6.out
  have Ry_6 := co Ry_3 K6.out
  clear KD LD
  obtain ⟨fx0, zx0, fx1, zx1, fx2, zx2, xx⟩ := ly3 Rx_6.out
  obtain ⟨fy0, zy0, fy1, zy1, fy2, zy2, xy⟩ := ly3 Ry_6.out
  go_wp2_with fail
  clear fx0 zx0 fx1 zx1 fx2 zx2 xx fy0 zy0 fy1 zy1 fy2 zy2 xy
  obtain ⟨fx0, zx0, fx1, zx1, fx2, zx2, xx⟩ := ly3 Rx_6.out
  obtain ⟨fy0, zy0, fy1, zy1, fy2, zy2, xy⟩ := ly3 Ry_6.out
  have KD := Lib.hid (bd0 w6)
  have LD := ls L6 KD.out
  go_region_held3 (fun w' => ∀ b o, b < w6.heap.size → w'.cell? ⟨b, o, none⟩ = w6.cell? ⟨b, o, none⟩)
    (first | with_reducible exact (bcell KD.out).1 | with_reducible exact (bcell K8.out).1 | with_reducible exact (bcell K9.out).1)
    (first
      | (go_at_call_of 49 A; (with_reducible refine (ZX.out _ (LD.out.get (A := A) (c := c) (xs := digs m.natAbs) (by simp))).mono ?_); rintro e w8 ⟨rfl, hb⟩; (have K8 := bt KD hb); (have L8 := Lib.hid (LD.out.step hb)); clear hb )
      | (go_at_call_of 49 B; (with_reducible refine (ZY.out _ (L8.out.get (A := B) (c := d) (xs := digs n.natAbs) (by simp))).mono ?_); rintro e w9 ⟨rfl, hb⟩; (have K9 := bt K8 hb); (have L9 := Lib.hid (L8.out.step hb)); clear hb ))
  rename_i hHeld
  clear hHeld
  clear fx0 zx0 fx1 zx1 fx2 zx2 xx fy0 zy0 fy1 zy1 fy2 zy2 xy
  have Rx_9 := co Rx_6 K9.out
  have Ry_9 := co Ry_6 K9.out
  clear KD LD
  go_wp2
  go_ret
  exact ⟨rfl, L9.out.1⟩

set_option maxHeartbeats 4000000 in
set_option maxRecDepth 100000 in
theorem r5cmp_tt_gt (A B : Option Addr) (c d : Nat) (m n x y : Int) (w : World) (h : Dg w A c (digs m.natAbs)) (h' : Dg w B d (digs n.natAbs)) (hl : (digs m.natAbs).length ≤ 10000) (hl' : (digs n.natAbs).length ≤ 10000) (r1 : Rt m x) (r2 : Rt n y) (hs : decide (m < 0) = true) (hr : decide (n < 0) = true) {q : Int} (hq : cmpd (dv m x) (dv n y) = q) (m0 : m ≠ 0) (n0 : n ≠ 0) (hc : y + bl n < x + bl m):
    Calls Tryd.prog 20 #[.agg #[.bool true, .slice A (digs m.natAbs).length c, .int .i64 x], .agg #[.bool true, .slice B (digs n.natAbs).length d, .int .i64 y]] w fun e w' => e = .returned (.int .i64 q) ∧ Below w.heap.size w w' := by
  have x0 := r1.2.1
  have x1 := r1.2.2
  have y0 := r2.2.1
  have y1 := r2.2.2
  have dx := fun (W : World) (hW : Dg W A c (digs m.natAbs)) => r5right_t (w := W) hW hl r1
  have dy := fun (W : World) (hW : Dg W B d (digs n.natAbs)) => r5right_t (w := W) hW hl' r2
  simp only [hs] at dx
  simp only [hr] at dy
  have DX := Lib.hid dx
  have DY := Lib.hid dy
  have lx := Lib.hid hl
  have ly := Lib.hid hl'
  have SX := Lib.hid (sg_of _ hs)
  have SY := Lib.hid (sg_of _ hr)
  have t1 : ((((digs m.natAbs).length : Nat) : Int) == 0) = false := beq_eq_false_iff_ne.2 (fun e => m0 (by have := digs_nil.1 (show (digs m.natAbs).length = 0 by omega); omega))
  have t2 : ((((digs n.natAbs).length : Nat) : Int) == 0) = false := beq_eq_false_iff_ne.2 (fun e => n0 (by have := digs_nil.1 (show (digs n.natAbs).length = 0 by omega); omega))
  have hsn : Int.sign m = Int.sign n := by have a := sign_three m; have b := sign_three n; simp at hs hr; omega
  have hz := cmp_sz hsn r1.1 r2.1 (by omega)
  rw [hq, hs, decide_eq_false (show ¬ x + bl m < y + bl n by omega)] at hz
  obtain rfl : q = (-1) := by
    rcases hz with h1 | h1
    · rw [← h1]; rfl
    · exact absurd h1 m0
  obtain ⟨s1, hs1⟩ : ∃ v : Int, x + bl m = v := ⟨_, rfl⟩
  obtain ⟨s2, hs2⟩ : ∃ v : Int, y + bl n = v := ⟨_, rfl⟩
  rw [hs1, hs2] at hc
  have sx := fun (W : World) (hW : Dg W A c (digs m.natAbs)) => r5size_any A c m x s1 W hW (Nat.le_trans hl (by omega)) (by omega) (by omega) hs1
  have sy := fun (W : World) (hW : Dg W B d (digs n.natAbs)) => r5size_any B d n y s2 W hW (Nat.le_trans hl' (by omega)) (by omega) (by omega) hs2
  simp only [hs] at sx
  simp only [hr] at sy
  have ZX := Lib.hid sx
  have ZY := Lib.hid sy
  have d0 : (s1 == s2) = false := by simp; omega
  have d0' : (s1 != s2) = true := by simp; omega
  have d1 : decide (s1 < s2) = false := by simp; omega
  have L0 := Lib.hid (((live_start w).add h).add h')
  clear h h' hl hl' r1 r2 dx dy hs hr hq hsn hz m0 n0 hc hs1 hs2 sx sy
  go_enter Tryd.func20, Tryd.ntmps20
  go_wp2_with fail
  obtain ⟨v1, hW, hb, Rx_1, Ry_1⟩ := new2 w (.cells #[.bool true, .slice A (digs m.natAbs).length c, .int .i64 x] 26) (.cells #[.bool true, .slice B (digs n.natAbs).length d, .int .i64 y] 26)
  rw [← hW]
  have L1 := ls L0 hb
  have Gx := gl0 L0.out
  have Gy := gl1 L0.out
  have Nxy : w.heap.size < w.heap.size + 1 := by omega
  clear hW hb
  refine (DX.out _ (L1.out.get (A := A) (c := c) (xs := digs m.natAbs) (by simp))).mono ?_
  rintro e w2 ⟨rfl, hb⟩
  have L2 := ls L1 hb
  have Rx_2 := co Rx_1 hb
  have Ry_2 := co Ry_1 hb
  clear hb 
  obtain ⟨fx0, zx0, fx1, zx1, fx2, zx2, xx⟩ := ly3 Rx_2.out
  obtain ⟨fy0, zy0, fy1, zy1, fy2, zy2, xy⟩ := ly3 Ry_2.out
  go_wp2_with fail
  refine (DY.out _ (L2.out.get (A := B) (c := d) (xs := digs n.natAbs) (by simp))).mono ?_
  rintro e w3 ⟨rfl, hb⟩
  have L3 := ls L2 hb
  clear fx0 zx0 fx1 zx1 fx2 zx2 xx fy0 zy0 fy1 zy1 fy2 zy2 xy
  have Rx_3 := co Rx_2 hb
  have Ry_3 := co Ry_2 hb
  clear hb 
  obtain ⟨fx0, zx0, fx1, zx1, fx2, zx2, xx⟩ := ly3 Rx_3.out
  obtain ⟨fy0, zy0, fy1, zy1, fy2, zy2, xy⟩ := ly3 Ry_3.out
  go_wp2_with fail
  clear fx0 zx0 fx1 zx1 fx2 zx2 xx fy0 zy0 fy1 zy1 fy2 zy2 xy
  obtain ⟨fx0, zx0, fx1, zx1, fx2, zx2, xx⟩ := ly3 Rx_3.out
  obtain ⟨fy0, zy0, fy1, zy1, fy2, zy2, xy⟩ := ly3 Ry_3.out
  have KD := Lib.hid (bd0 w3)
  have LD := ls L3 KD.out
  go_region_held3 (fun w' => ∀ b o, b < w3.heap.size → w'.cell? ⟨b, o, none⟩ = w3.cell? ⟨b, o, none⟩)
    (first | with_reducible exact (bcell KD.out).1 | with_reducible exact (bcell K5.out).1 | with_reducible exact (bcell K6.out).1)
    (first
      | (go_at_call_of 49 A; (with_reducible refine (ZX.out _ (LD.out.get (A := A) (c := c) (xs := digs m.natAbs) (by simp))).mono ?_); rintro e w5 ⟨rfl, hb⟩; (have K5 := bt KD hb); (have L5 := Lib.hid (LD.out.step hb)); clear hb )
      | (go_at_call_of 49 B; (with_reducible refine (ZY.out _ (L5.out.get (A := B) (c := d) (xs := digs n.natAbs) (by simp))).mono ?_); rintro e w6 ⟨rfl, hb⟩; (have K6 := bt K5 hb); (have L6 := Lib.hid (L5.out.step hb)); clear hb ))
  rename_i hHeld
  clear hHeld
  clear fx0 zx0 fx1 zx1 fx2 zx2 xx fy0 zy0 fy1 zy1 fy2 zy2 xy
  have Rx_6 := co Rx_3 K6.out
  have Ry_6 := co Ry_3 K6.out
  clear KD LD
  obtain ⟨fx0, zx0, fx1, zx1, fx2, zx2, xx⟩ := ly3 Rx_6.out
  obtain ⟨fy0, zy0, fy1, zy1, fy2, zy2, xy⟩ := ly3 Ry_6.out
  go_wp2_with fail
  clear fx0 zx0 fx1 zx1 fx2 zx2 xx fy0 zy0 fy1 zy1 fy2 zy2 xy
  obtain ⟨fx0, zx0, fx1, zx1, fx2, zx2, xx⟩ := ly3 Rx_6.out
  obtain ⟨fy0, zy0, fy1, zy1, fy2, zy2, xy⟩ := ly3 Ry_6.out
  have KD := Lib.hid (bd0 w6)
  have LD := ls L6 KD.out
  go_region_held3 (fun w' => ∀ b o, b < w6.heap.size → w'.cell? ⟨b, o, none⟩ = w6.cell? ⟨b, o, none⟩)
    (first | with_reducible exact (bcell KD.out).1 | with_reducible exact (bcell K8.out).1 | with_reducible exact (bcell K9.out).1)
    (first
      | (go_at_call_of 49 A; (with_reducible refine (ZX.out _ (LD.out.get (A := A) (c := c) (xs := digs m.natAbs) (by simp))).mono ?_); rintro e w8 ⟨rfl, hb⟩; (have K8 := bt KD hb); (have L8 := Lib.hid (LD.out.step hb)); clear hb )
      | (go_at_call_of 49 B; (with_reducible refine (ZY.out _ (L8.out.get (A := B) (c := d) (xs := digs n.natAbs) (by simp))).mono ?_); rintro e w9 ⟨rfl, hb⟩; (have K9 := bt K8 hb); (have L9 := Lib.hid (L8.out.step hb)); clear hb ))
  rename_i hHeld
  clear hHeld
  clear fx0 zx0 fx1 zx1 fx2 zx2 xx fy0 zy0 fy1 zy1 fy2 zy2 xy
  have Rx_9 := co Rx_6 K9.out
  have Ry_9 := co Ry_6 K9.out
  clear KD LD
  go_wp2
  go_ret
  exact ⟨rfl, L9.out.1⟩

set_option maxHeartbeats 4000000 in
set_option maxRecDepth 100000 in
theorem r5cmp_tt_eq (A B : Option Addr) (c d : Nat) (m n x y : Int) (w : World) (h : Dg w A c (digs m.natAbs)) (h' : Dg w B d (digs n.natAbs)) (hl : (digs m.natAbs).length ≤ 10000) (hl' : (digs n.natAbs).length ≤ 10000) (r1 : Rt m x) (r2 : Rt n y) (hs : decide (m < 0) = true) (hr : decide (n < 0) = true) {q : Int} (hq : cmpd (dv m x) (dv n y) = q) (m0 : m ≠ 0) (n0 : n ≠ 0) (hc : x + bl m = y + bl n):
    Calls Tryd.prog 20 #[.agg #[.bool true, .slice A (digs m.natAbs).length c, .int .i64 x], .agg #[.bool true, .slice B (digs n.natAbs).length d, .int .i64 y]] w fun e w' => e = .returned (.int .i64 q) ∧ Below w.heap.size w w' := by
  have x0 := r1.2.1
  have x1 := r1.2.2
  have y0 := r2.2.1
  have y1 := r2.2.2
  have dx := fun (W : World) (hW : Dg W A c (digs m.natAbs)) => r5right_t (w := W) hW hl r1
  have dy := fun (W : World) (hW : Dg W B d (digs n.natAbs)) => r5right_t (w := W) hW hl' r2
  simp only [hs] at dx
  simp only [hr] at dy
  have DX := Lib.hid dx
  have DY := Lib.hid dy
  have lx := Lib.hid hl
  have ly := Lib.hid hl'
  have SX := Lib.hid (sg_of _ hs)
  have SY := Lib.hid (sg_of _ hr)
  have t1 : ((((digs m.natAbs).length : Nat) : Int) == 0) = false := beq_eq_false_iff_ne.2 (fun e => m0 (by have := digs_nil.1 (show (digs m.natAbs).length = 0 by omega); omega))
  have t2 : ((((digs n.natAbs).length : Nat) : Int) == 0) = false := beq_eq_false_iff_ne.2 (fun e => n0 (by have := digs_nil.1 (show (digs n.natAbs).length = 0 by omega); omega))
  obtain ⟨e0, he0⟩ : ∃ e, min x y = e := ⟨_, rfl⟩
  obtain ⟨p, hp⟩ : ∃ e, upto m x e0 = e := ⟨_, rfl⟩
  obtain ⟨t, ht⟩ : ∃ e, upto n y e0 = e := ⟨_, rfl⟩
  have HQ := Lib.hid (show Int.sign (p - t) = q by rw [← hq]; exact cmp_up he0 hp ht)
  have lp := upto_len2 (m := m) (x := x) (e0 := e0) hl (by omega)
  have lq := upto_len2 (m := n) (x := y) (e0 := e0) hl' (by omega)
  rw [hp] at lp
  rw [ht] at lq
  have LP := Lib.hid lp
  have LQ := Lib.hid lq
  have lf := fun (W : World) (h1 : Dg W A c (digs m.natAbs)) (h2 : Dg W B d (digs n.natAbs)) => r5lift_any (w := W) h1 h2 hl hl' x0 x1 y0 y1 m0 n0 he0 hp ht
  simp only [hs, hr] at lf
  have LF := Lib.hid lf
  obtain ⟨s1, hs1⟩ : ∃ v : Int, x + bl m = v := ⟨_, rfl⟩
  obtain ⟨s2, hs2⟩ : ∃ v : Int, y + bl n = v := ⟨_, rfl⟩
  rw [hs1, hs2] at hc
  have sx := fun (W : World) (hW : Dg W A c (digs m.natAbs)) => r5size_any A c m x s1 W hW (Nat.le_trans hl (by omega)) (by omega) (by omega) hs1
  have sy := fun (W : World) (hW : Dg W B d (digs n.natAbs)) => r5size_any B d n y s2 W hW (Nat.le_trans hl' (by omega)) (by omega) (by omega) hs2
  simp only [hs] at sx
  simp only [hr] at sy
  have ZX := Lib.hid sx
  have ZY := Lib.hid sy
  have d0 : (s1 == s2) = true := by simp; omega
  have d0' : (s1 != s2) = false := by simp; omega
  have L0 := Lib.hid (((live_start w).add h).add h')
  clear h h' hl hl' r1 r2 dx dy hs hr hq m0 n0 he0 hp ht lp lq lf hc hs1 hs2 sx sy
  go_enter Tryd.func20, Tryd.ntmps20
  go_wp2_with fail
  obtain ⟨v1, hW, hb, Rx_1, Ry_1⟩ := new2 w (.cells #[.bool true, .slice A (digs m.natAbs).length c, .int .i64 x] 26) (.cells #[.bool true, .slice B (digs n.natAbs).length d, .int .i64 y] 26)
  rw [← hW]
  have L1 := ls L0 hb
  have Gx := gl0 L0.out
  have Gy := gl1 L0.out
  have Nxy : w.heap.size < w.heap.size + 1 := by omega
  clear hW hb
  refine (DX.out _ (L1.out.get (A := A) (c := c) (xs := digs m.natAbs) (by simp))).mono ?_
  rintro e w2 ⟨rfl, hb⟩
  have L2 := ls L1 hb
  have Rx_2 := co Rx_1 hb
  have Ry_2 := co Ry_1 hb
  clear hb 
  obtain ⟨fx0, zx0, fx1, zx1, fx2, zx2, xx⟩ := ly3 Rx_2.out
  obtain ⟨fy0, zy0, fy1, zy1, fy2, zy2, xy⟩ := ly3 Ry_2.out
  go_wp2_with fail
  refine (DY.out _ (L2.out.get (A := B) (c := d) (xs := digs n.natAbs) (by simp))).mono ?_
  rintro e w3 ⟨rfl, hb⟩
  have L3 := ls L2 hb
  clear fx0 zx0 fx1 zx1 fx2 zx2 xx fy0 zy0 fy1 zy1 fy2 zy2 xy
  have Rx_3 := co Rx_2 hb
  have Ry_3 := co Ry_2 hb
  clear hb 
  obtain ⟨fx0, zx0, fx1, zx1, fx2, zx2, xx⟩ := ly3 Rx_3.out
  obtain ⟨fy0, zy0, fy1, zy1, fy2, zy2, xy⟩ := ly3 Ry_3.out
  go_wp2_with fail
  clear fx0 zx0 fx1 zx1 fx2 zx2 xx fy0 zy0 fy1 zy1 fy2 zy2 xy
  obtain ⟨fx0, zx0, fx1, zx1, fx2, zx2, xx⟩ := ly3 Rx_3.out
  obtain ⟨fy0, zy0, fy1, zy1, fy2, zy2, xy⟩ := ly3 Ry_3.out
  have KD := Lib.hid (bd0 w3)
  have LD := ls L3 KD.out
  go_region_held3 (fun w' => ∀ b o, b < w3.heap.size → w'.cell? ⟨b, o, none⟩ = w3.cell? ⟨b, o, none⟩)
    (first | with_reducible exact (bcell KD.out).1 | with_reducible exact (bcell K5.out).1 | with_reducible exact (bcell K6.out).1)
    (first
      | (go_at_call_of 49 A; (with_reducible refine (ZX.out _ (LD.out.get (A := A) (c := c) (xs := digs m.natAbs) (by simp))).mono ?_); rintro e w5 ⟨rfl, hb⟩; (have K5 := bt KD hb); (have L5 := Lib.hid (LD.out.step hb)); clear hb )
      | (go_at_call_of 49 B; (with_reducible refine (ZY.out _ (L5.out.get (A := B) (c := d) (xs := digs n.natAbs) (by simp))).mono ?_); rintro e w6 ⟨rfl, hb⟩; (have K6 := bt K5 hb); (have L6 := Lib.hid (L5.out.step hb)); clear hb ))
  rename_i hHeld
  clear hHeld
  clear fx0 zx0 fx1 zx1 fx2 zx2 xx fy0 zy0 fy1 zy1 fy2 zy2 xy
  have Rx_6 := co Rx_3 K6.out
  have Ry_6 := co Ry_3 K6.out
  clear KD LD
  clear d0 d0'
  obtain ⟨fx0, zx0, fx1, zx1, fx2, zx2, xx⟩ := ly3 Rx_6.out
  obtain ⟨fy0, zy0, fy1, zy1, fy2, zy2, xy⟩ := ly3 Ry_6.out
  go_wp2_with fail
  refine (LF.out _ (L6.out.get (A := A) (c := c) (xs := digs m.natAbs) (by simp)) (L6.out.get (A := B) (c := d) (xs := digs n.natAbs) (by simp))).mono ?_
  rintro e w7 ⟨A7, c7, B7, d7, rfl, hd, hd', hb⟩
  have L7 := Lib.hid (((L6.out.step hb).add hd).add hd')
  clear fx0 zx0 fx1 zx1 fx2 zx2 xx fy0 zy0 fy1 zy1 fy2 zy2 xy
  have Rx_7 := co Rx_6 hb
  have Ry_7 := co Ry_6 hb
  clear hb hd hd'
  go_wp2_with fail
  obtain ⟨w8, hW, hb, Ra_8, Rb_8⟩ := new2 w7 (.cells #[.bool (decide (p < 0)), .slice A7 (digs p.natAbs).length c7] 24) (.cells #[.bool (decide (t < 0)), .slice B7 (digs t.natAbs).length d7] 24)
  rw [← hW]
  have L8 := ls L7 hb
  have Rx_8 := co Rx_7 hb
  have Ry_8 := co Ry_7 hb
  have Ga := gl0 L7.out
  have Nxa := nl0 Rx_7.out
  have Nya := nl0 Ry_7.out
  have Gb := gl1 L7.out
  have Nxb := nl1 Rx_7.out
  have Nyb := nl1 Ry_7.out
  have Nab : w7.heap.size < w7.heap.size + 1 := by omega
  clear hW hb
  refine (rzcmp_j (L8.out.get (A := A7) (c := c7) (xs := digs p.natAbs) (by simp)) (L8.out.get (A := B7) (c := d7) (xs := digs t.natAbs) (by simp)) (sg_of _ rfl) (sg_of _ rfl) (Nat.le_trans LP.out (by omega)) (Nat.le_trans LQ.out (by omega)) HQ.out).mono ?_
  rintro e w9 ⟨rfl, hb⟩
  have L9 := ls L8 hb
  have Rx_9 := co Rx_8 hb
  have Ry_9 := co Ry_8 hb
  have Ra_9 := co Ra_8 hb
  have Rb_9 := co Rb_8 hb
  clear hb 
  go_wp2
  go_ret
  exact ⟨rfl, L9.out.1⟩

theorem r5cmp_any {A B : Option Addr} {c d : Nat} {m n x y q : Int} {w : World} (h : Dg w A c (digs m.natAbs)) (h' : Dg w B d (digs n.natAbs)) (hl : (digs m.natAbs).length ≤ 10000) (hl' : (digs n.natAbs).length ≤ 10000) (r1 : Rt m x) (r2 : Rt n y) (hq : cmpd (dv m x) (dv n y) = q) :
    Calls Tryd.prog 20 #[.agg #[.bool (decide (m < 0)), .slice A (digs m.natAbs).length c, .int .i64 x], .agg #[.bool (decide (n < 0)), .slice B (digs n.natAbs).length d, .int .i64 y]] w fun e w' => e = .returned (.int .i64 q) ∧ Below w.heap.size w w' := by
  obtain ⟨s, hs⟩ : ∃ s, decide (m < 0) = s := ⟨_, rfl⟩
  obtain ⟨r, hr⟩ : ∃ s, decide (n < 0) = s := ⟨_, rfl⟩
  rw [hs, hr]
  cases s <;> cases r
  · by_cases m0 : m = 0
    · exact r5cmp_ff_z1 A B c d m n x y w h h' hl hl' r1 r2 hs hr hq m0
    · by_cases n0 : n = 0
      · exact r5cmp_ff_z2 A B c d m n x y w h h' hl hl' r1 r2 hs hr hq m0 n0
      · rcases Int.lt_trichotomy (x + bl m) (y + bl n) with hc | hc | hc
        · exact r5cmp_ff_lt A B c d m n x y w h h' hl hl' r1 r2 hs hr hq m0 n0 hc
        · exact r5cmp_ff_eq A B c d m n x y w h h' hl hl' r1 r2 hs hr hq m0 n0 hc
        · exact r5cmp_ff_gt A B c d m n x y w h h' hl hl' r1 r2 hs hr hq m0 n0 hc
  · exact r5cmp_ft_far A B c d m n x y w h h' hl hl' r1 r2 hs hr hq
  · exact r5cmp_tf_far A B c d m n x y w h h' hl hl' r1 r2 hs hr hq
  · by_cases m0 : m = 0
    · exact absurd hs (by subst m0; decide)
    · by_cases n0 : n = 0
      · exact absurd hr (by subst n0; decide)
      · rcases Int.lt_trichotomy (x + bl m) (y + bl n) with hc | hc | hc
        · exact r5cmp_tt_lt A B c d m n x y w h h' hl hl' r1 r2 hs hr hq m0 n0 hc
        · exact r5cmp_tt_eq A B c d m n x y w h h' hl hl' r1 r2 hs hr hq m0 n0 hc
        · exact r5cmp_tt_gt A B c d m n x y w h h' hl hl' r1 r2 hs hr hq m0 n0 hc
end Go.Proofs.YtaciohjobenipaaDoor
end

section
/-
  answer of what is not in range.
-/
namespace Go.Proofs.YtaciohjobenipaaDoor
open Go.RowKit
set_option linter.unusedSimpArgs false
set_option linter.unusedVariables false
set_option maxHeartbeats 4000000 in
set_option maxRecDepth 100000 in
theorem answer_no (g : Nat) (A : Option Addr) (c : Nat) (s : Bool) (m x : Int) (w : World) (hR : w.heap[g]? = some (.cells #[.int .i64 0] 66 (0, 0))) (h : Dg w A c (digs m.natAbs)) (hl : (digs m.natAbs).length ≤ 1000000) (hq : inR m x = false):
    Calls Tryd.prog 59 #[.pointer (some ⟨g, 0, none⟩), .agg #[.bool s, .slice A (digs m.natAbs).length c, .int .i64 x]] w fun e w' => e = .returned (.tuple #[.agg #[.bool false, .slice none 0 0, .int .i64 0], .int .i64 4]) ∧ Below g w w' := by
  have RK_0 := Lib.hid hR
  have hg := heap_lt hR
  have lx := Lib.hid hl
  have HQ := Lib.hid hq
  have L0 := Lib.hid ((live_start w).add h)
  clear h hl hq hR
  go_enter Tryd.func59, Tryd.ntmps59
  go_wp2_with fail
  obtain ⟨v1, hW, hb, Rx_1, Rr_1⟩ := new2 w (.cells #[.bool s, .slice A (digs m.natAbs).length c, .int .i64 x] 26) (.cells #[.bool false, .slice none 0 0, .int .i64 0] 26)
  rw [← hW]
  have L1 := ls L0 hb
  have Rk_1 := co RK_0 hb
  have Gx := gl0 L0.out
  have Nkx := nl0 RK_0.out
  have Gr := gl1 L0.out
  have Nkr := nl1 RK_0.out
  have Nxr : w.heap.size < w.heap.size + 1 := by omega
  clear hW hb
  obtain ⟨fx0, zx0, fx1, zx1, fx2, zx2, xx⟩ := ly3 Rx_1.out
  have KD := Lib.hid (bd0 v1)
  have xg := heap_lt Rx_1.out
  have xne : w.heap.size ≠ g := by omega
  go_region_held3 (fun w' => ∀ o, w'.cell? ⟨w.heap.size, o, none⟩ = v1.cell? ⟨w.heap.size, o, none⟩)
    (first | with_reducible exact keep_b KD.out xg | with_reducible exact keep_b K1.out xg | with_reducible exact keep_set (keep_b K1.out xg) xne)
    (first
      | (go_at_call 39; (with_reducible refine (inRange_any A c s m x _ ((L1.out.step KD.out).get (A := A) (c := c) (xs := digs m.natAbs) (by simp)) false HQ.out lx.out).mono ?_); rintro e w1 ⟨rfl, hb⟩; (have K1 := bt KD hb); clear hb)
      | (go_at_call 66; (with_reducible refine (tell_yes _ 4 _ (row_c (cells_of Rk_1.out K1.out) (i := 0) rfl) (frozen_of_row _ _ 0 _ _ (cells_of Rk_1.out K1.out))).mono ?_); rintro e w2 ⟨rfl, rfl⟩))
  rename_i hHeld
  clear hHeld
  clear fx0 zx0 fx1 zx1 fx2 zx2 xx
  have RK1 := co Rk_1 K1.out
  have Rr1 := co Rr_1 K1.out
  have LZ := ls L1 K1.out
  obtain ⟨wz, hW⟩ : ∃ W : World, W = w1.setCell ⟨g, 0, none⟩ (.int .i64 4) := ⟨_, rfl⟩
  rw [← hW]
  have hO : Only g w1 wz := by rw [hW]; exact ((Only.refl g w1).setCell 0 _)
  have HB := Lib.hid (hO.below (LZ.out.1.mono (Nat.le_of_lt hg)) (Nat.le_refl g))
  have RKz := Lib.hid (show wz.heap[g]? = some (.cells #[.int .i64 4] 66 (0, 0)) by rw [hW]; exact heap_setCell_same _ _ 0 _ _ _ RK1.out)
  have Rrz := Lib.hid ((hO.block _ (by omega)).trans Rr1.out)
  clear hW hO
  go_wp2_with fail
  refine (fails_any _ 4 true _ (row_c RKz.out (i := 0) rfl) rfl).mono ?_
  rintro e wf ⟨rfl, rfl⟩
  go_wp2_with fail
  refine (none_any _ 4 _ (row_c RKz.out (i := 0) rfl) (heap_lt RKz.out)).mono ?_
  rintro e wn ⟨rfl, hb⟩
  have HB2 := Lib.hid (HB.out.trans (hb.mono (Nat.le_of_lt (heap_lt RKz.out))))
  have Rrn := co Rrz hb
  clear hb
  have gr : g ≤ w.heap.size + 1 := by omega
  obtain ⟨fr0, zr0, fr1, zr1, fr2, zr2, xr⟩ := ly3 Rrn.out
  go_wp2
  refine bodyPost_ret (v := .tuple #[.agg #[.bool false, .slice none 0 0, .int .i64 0], .int .i64 4]) (by simp [results, Tryd.results59, go_sem, fr0, fr1, fr2]) rfl ?_
  
  exact ⟨rfl, ((((Only.refl _ _).setCell 0 _).setCell 1 _).setCell 2 _).below HB2.out gr⟩
end Go.Proofs.YtaciohjobenipaaDoor
end

section
/-
  dyad, in range or not: Add, Scale, Round.
-/
namespace Go.Proofs.YtaciohjobenipaaDoor
open Go.RowKit
set_option linter.unusedSimpArgs false
set_option linter.unusedVariables false
/-- An answer in range, or the error ErrRange. -/
def tot (M E : Int) : Int × Int × Int := if inR M E then (M, E, 0) else (0, 0, 4)
theorem answer_t {g : Nat} {A : Option Addr} {c : Nat} {M E K F t : Int} {w : World} (hR : w.heap[g]? = some (.cells #[.int .i64 0] 66 (0, 0))) (h : Dg w A c (digs M.natAbs)) (hl : (digs M.natAbs).length ≤ 1000000) (hq : tot M E = (K, F, t)) :
    Calls Tryd.prog 59 #[.pointer (some ⟨g, 0, none⟩), .agg #[.bool (decide (M < 0)), .slice A (digs M.natAbs).length c, .int .i64 E]] w fun e w' => ∃ A c, e = .returned (.tuple #[.agg #[.bool (decide (K < 0)), .slice A (digs K.natAbs).length c, .int .i64 F], .int .i64 t]) ∧ Dg w' A c (digs K.natAbs) ∧ Below g w w' := by
  unfold tot at hq
  by_cases hi : inR M E = true
  · rw [if_pos hi] at hq
    obtain ⟨rfl, rfl, rfl⟩ : M = K ∧ E = F ∧ 0 = t := by simpa using hq
    refine (answer_d (row_c (i := 0) hR rfl) (heap_lt hR) h hl hi).mono ?_
    rintro e w' ⟨A, c, rfl, hd, hb⟩
    exact ⟨A, c, rfl, hd, hb.mono (Nat.le_of_lt (heap_lt hR))⟩
  · rw [if_neg hi] at hq
    obtain ⟨rfl, rfl, rfl⟩ : 0 = K ∧ 0 = F ∧ 4 = t := by simpa using hq
    refine (answer_no g A c (decide (M < 0)) M E w hR h hl (by simpa using hi)).mono ?_
    rintro e w' ⟨rfl, hb⟩
    have e0 : digs (0 : Int).natAbs = [] := digs_zero
    exact ⟨none, 0, by rw [e0]; rfl, by rw [e0]; exact Dg.nil_ _ _, hb⟩
theorem live_upto {w v w' : World} {g : Nat} {A : Option Addr} {c : Nat} {xs : List Nat} (hL : Below w.heap.size w v) (hb : Below g v w') (hg : w.heap.size ≤ g) (hd : Dg w' A c xs) : Live w w' [(A, c, xs)] :=
  ⟨hL.trans (hb.mono hg), fun t ht => by simp at ht; subst ht; exact hd⟩
theorem tot_len {M E K F t : Int} (h : tot M E = (K, F, t)) (hn : Nf M E) : (digs K.natAbs).length ≤ 10000 ∧ Nf K F := by
  unfold tot at h
  by_cases hi : inR M E = true
  · rw [if_pos hi] at h
    obtain ⟨rfl, rfl, rfl⟩ : M = K ∧ E = F ∧ 0 = t := by simpa using h
    exact ⟨inr_len hi, hn⟩
  · rw [if_neg hi] at h
    obtain ⟨rfl, rfl, rfl⟩ : 0 = K ∧ 0 = F ∧ 4 = t := by simpa using h
    exact ⟨by rw [show digs (0 : Int).natAbs = [] from digs_zero]; simp, .inl ⟨rfl, rfl⟩⟩

set_option maxHeartbeats 4000000 in
set_option maxRecDepth 100000 in
theorem tadd_z_ (A B : Option Addr) (c d : Nat) (m n x y : Int) (M E : Int) (w : World) (h : Dg w A c (digs m.natAbs)) (h' : Dg w B d (digs n.natAbs)) (hl : (digs m.natAbs).length ≤ 10000) (hl' : (digs n.natAbs).length ≤ 10000) (r1 : Rt m x) (r2 : Rt n y) (hT : T32 w) (hs : IsD (dv m x + dv n y) M E) (hlm : (digs M.natAbs).length ≤ 900000) {K F V : Int} (hq : tot M E = (K, F, V)) (m0 : m = 0):
    Calls Tryd.prog 23 #[.agg #[.bool (decide (m < 0)), .slice A (digs m.natAbs).length c, .int .i64 x], .agg #[.bool (decide (n < 0)), .slice B (digs n.natAbs).length d, .int .i64 y]] w fun e w' => Ye K F V w e w' := by
  have HR1 := Lib.hid r1
  have HR2 := Lib.hid r2
  have lx := Lib.hid hl
  have ly := Lib.hid hl'
  have HQ := Lib.hid hq
  have x0 := r1.2.1
  have x1 := r1.2.2
  have y0 := r2.2.1
  have y1 := r2.2.2
  have LM := Lib.hid hlm
  have d1 : decide (m = 0) = true := by simp [m0]
  have hu := IsD.uniq (show IsD (dv m x + dv n y) n y from ⟨r2.1, by rw [m0, dv_zero, Rat.zero_add]⟩) hs
  obtain ⟨rfl, rfl⟩ := hu
  have D1 := Lib.hid d1
  have HT := Lib.hid hT
  clear hT
  have L0 := Lib.hid (((live_start w).add h).add h')
  clear h h' hl hl' r1 r2 hs hq d1 m0
  go_enter Tryd.func23, Tryd.ntmps23
  go_wp2_with fail
  obtain ⟨v1, hW, hb, Rx_1, Ry_1, Rr_1, Rsl_1⟩ := new4 w (.cells #[.bool (decide (m < 0)), .slice A (digs m.natAbs).length c, .int .i64 x] 26) (.cells #[.bool (decide (n < 0)), .slice B (digs n.natAbs).length d, .int .i64 y] 26) (.cells #[.bool false, .slice none 0 0, .int .i64 0] 26) (.cells #[.bool (decide (m < 0)), .slice A (digs m.natAbs).length c, .int .i64 x, .bool (decide (n < 0)), .slice B (digs n.natAbs).length d, .int .i64 y] 26)
  rw [← hW]
  have L1 := ls L0 hb
  have Gx := gl0 L0.out
  have Gy := gl1 L0.out
  have Nxy : w.heap.size < w.heap.size + 1 := by omega
  have Gr := gl2 L0.out
  have Nxr : w.heap.size < w.heap.size + 1 + 1 := by omega
  have Nyr : w.heap.size + 1 < w.heap.size + 1 + 1 := by omega
  have Gsl := gl3 L0.out
  have Nxsl : w.heap.size < w.heap.size + 1 + 1 + 1 := by omega
  have Nysl : w.heap.size + 1 < w.heap.size + 1 + 1 + 1 := by omega
  have Nrsl : w.heap.size + 1 + 1 < w.heap.size + 1 + 1 + 1 := by omega
  clear hW hb
  refine (begin_2 Rsl_1.out (L1.out.get (A := A) (c := c) (xs := digs m.natAbs) (by simp)) (L1.out.get (A := B) (c := d) (xs := digs n.natAbs) (by simp)) (dyR_num HR1.out) (dyR_num HR2.out) (Nat.le_trans lx.out (by omega)) (Nat.le_trans ly.out (by omega)) (k := 0) rfl).mono ?_
  rintro e w2 ⟨rfl, hb⟩
  have L2 := ls L1 hb
  have Rx_2 := co Rx_1 hb
  have Ry_2 := co Ry_1 hb
  have Rr_2 := co Rr_1 hb
  have Rsl_2 := co Rsl_1 hb
  clear hb 
  go_wp2_with fail
  obtain ⟨w3, hW, hb, Rk_3⟩ := new1 w2 (.cells #[.int .i64 0] 66)
  rw [← hW]
  have L3 := ls L2 hb
  have Rx_3 := co Rx_2 hb
  have Ry_3 := co Ry_2 hb
  have Rr_3 := co Rr_2 hb
  have Rsl_3 := co Rsl_2 hb
  have Gk := gl0 L2.out
  have Nxk := nl0 Rx_2.out
  have Nyk := nl0 Ry_2.out
  have Nrk := nl0 Rr_2.out
  have Nslk := nl0 Rsl_2.out
  clear hW hb
  refine (fails_any _ 0 false _ (row_c Rk_3.out (i := 0) rfl) rfl).mono ?_
  rintro e w4 ⟨rfl, rfl⟩
  obtain ⟨fx0, zx0, fx1, zx1, fx2, zx2, xx⟩ := ly3 Rx_3.out
  go_wp2_with fail
  refine (isz_d (x := x) D1.out).mono ?_
  rintro e w5 ⟨rfl, hb⟩
  have L5 := ls L3 hb
  clear fx0 zx0 fx1 zx1 fx2 zx2 xx
  have Rx_5 := co Rx_3 hb
  have Ry_5 := co Ry_3 hb
  have Rr_5 := co Rr_3 hb
  have Rsl_5 := co Rsl_3 hb
  have Rk_5 := co Rk_3 hb
  clear hb 
  obtain ⟨fy0, zy0, fy1, zy1, fy2, zy2, xy⟩ := ly3 Ry_5.out
  go_wp2_with fail
  refine (answer_t Rk_5.out (L5.out.get (A := B) (c := d) (xs := digs n.natAbs) (by simp)) (Nat.le_trans LM.out (by omega)) HQ.out).mono ?_
  rintro e wz ⟨Az, cz, rfl, hd, hb⟩
  clear fy0 zy0 fy1 zy1 fy2 zy2 xy
  have Rr_z := Lib.hid ((hb.block (w.heap.size + 1 + 1) (by omega)).trans Rr_5.out)
  have Lz := Lib.hid (live_upto L5.out.1 hb Gk hd)
  clear hd hb
  obtain ⟨fr0, zr0, fr1, zr1, fr2, zr2, xr⟩ := ly3 Rr_z.out
  go_wp2
  refine bodyPost_ret (v := .tuple #[.agg #[.bool (decide (K < 0)), .slice Az (digs K.natAbs).length cz, .int .i64 F], .int .i64 V]) (by simp [results, Tryd.results23, go_sem, fr0, fr1, fr2]) rfl ?_
  
  refine ⟨Az, cz, rfl, ?_, ?_⟩
  · exact (fin3 Lz.out Rr_z.out noint3 Gr).get (A := Az) (c := cz) (xs := digs K.natAbs) (by simp)
  · exact (fin3 Lz.out Rr_z.out noint3 Gr).1

set_option maxHeartbeats 4000000 in
set_option maxRecDepth 100000 in
theorem tadd_y_ (A B : Option Addr) (c d : Nat) (m n x y : Int) (M E : Int) (w : World) (h : Dg w A c (digs m.natAbs)) (h' : Dg w B d (digs n.natAbs)) (hl : (digs m.natAbs).length ≤ 10000) (hl' : (digs n.natAbs).length ≤ 10000) (r1 : Rt m x) (r2 : Rt n y) (hT : T32 w) (hs : IsD (dv m x + dv n y) M E) (hlm : (digs M.natAbs).length ≤ 900000) {K F V : Int} (hq : tot M E = (K, F, V)) (m0 : m ≠ 0) (n0 : n = 0):
    Calls Tryd.prog 23 #[.agg #[.bool (decide (m < 0)), .slice A (digs m.natAbs).length c, .int .i64 x], .agg #[.bool (decide (n < 0)), .slice B (digs n.natAbs).length d, .int .i64 y]] w fun e w' => Ye K F V w e w' := by
  have HR1 := Lib.hid r1
  have HR2 := Lib.hid r2
  have lx := Lib.hid hl
  have ly := Lib.hid hl'
  have HQ := Lib.hid hq
  have x0 := r1.2.1
  have x1 := r1.2.2
  have y0 := r2.2.1
  have y1 := r2.2.2
  have LM := Lib.hid hlm
  have d1 : decide (m = 0) = false := by simp [m0]
  have d2 : decide (n = 0) = true := by simp [n0]
  have hu := IsD.uniq (show IsD (dv m x + dv n y) m x from ⟨r1.1, by rw [n0, dv_zero, Rat.add_zero]⟩) hs
  obtain ⟨rfl, rfl⟩ := hu
  have D1 := Lib.hid d1
  have D2 := Lib.hid d2
  have HT := Lib.hid hT
  clear hT
  have L0 := Lib.hid (((live_start w).add h).add h')
  clear h h' hl hl' r1 r2 hs hq d1 m0 d2 n0
  go_enter Tryd.func23, Tryd.ntmps23
  go_wp2_with fail
  obtain ⟨v1, hW, hb, Rx_1, Ry_1, Rr_1, Rsl_1⟩ := new4 w (.cells #[.bool (decide (m < 0)), .slice A (digs m.natAbs).length c, .int .i64 x] 26) (.cells #[.bool (decide (n < 0)), .slice B (digs n.natAbs).length d, .int .i64 y] 26) (.cells #[.bool false, .slice none 0 0, .int .i64 0] 26) (.cells #[.bool (decide (m < 0)), .slice A (digs m.natAbs).length c, .int .i64 x, .bool (decide (n < 0)), .slice B (digs n.natAbs).length d, .int .i64 y] 26)
  rw [← hW]
  have L1 := ls L0 hb
  have Gx := gl0 L0.out
  have Gy := gl1 L0.out
  have Nxy : w.heap.size < w.heap.size + 1 := by omega
  have Gr := gl2 L0.out
  have Nxr : w.heap.size < w.heap.size + 1 + 1 := by omega
  have Nyr : w.heap.size + 1 < w.heap.size + 1 + 1 := by omega
  have Gsl := gl3 L0.out
  have Nxsl : w.heap.size < w.heap.size + 1 + 1 + 1 := by omega
  have Nysl : w.heap.size + 1 < w.heap.size + 1 + 1 + 1 := by omega
  have Nrsl : w.heap.size + 1 + 1 < w.heap.size + 1 + 1 + 1 := by omega
  clear hW hb
  refine (begin_2 Rsl_1.out (L1.out.get (A := A) (c := c) (xs := digs m.natAbs) (by simp)) (L1.out.get (A := B) (c := d) (xs := digs n.natAbs) (by simp)) (dyR_num HR1.out) (dyR_num HR2.out) (Nat.le_trans lx.out (by omega)) (Nat.le_trans ly.out (by omega)) (k := 0) rfl).mono ?_
  rintro e w2 ⟨rfl, hb⟩
  have L2 := ls L1 hb
  have Rx_2 := co Rx_1 hb
  have Ry_2 := co Ry_1 hb
  have Rr_2 := co Rr_1 hb
  have Rsl_2 := co Rsl_1 hb
  clear hb 
  go_wp2_with fail
  obtain ⟨w3, hW, hb, Rk_3⟩ := new1 w2 (.cells #[.int .i64 0] 66)
  rw [← hW]
  have L3 := ls L2 hb
  have Rx_3 := co Rx_2 hb
  have Ry_3 := co Ry_2 hb
  have Rr_3 := co Rr_2 hb
  have Rsl_3 := co Rsl_2 hb
  have Gk := gl0 L2.out
  have Nxk := nl0 Rx_2.out
  have Nyk := nl0 Ry_2.out
  have Nrk := nl0 Rr_2.out
  have Nslk := nl0 Rsl_2.out
  clear hW hb
  refine (fails_any _ 0 false _ (row_c Rk_3.out (i := 0) rfl) rfl).mono ?_
  rintro e w4 ⟨rfl, rfl⟩
  obtain ⟨fx0, zx0, fx1, zx1, fx2, zx2, xx⟩ := ly3 Rx_3.out
  go_wp2_with fail
  refine (isz_d (x := x) D1.out).mono ?_
  rintro e w5 ⟨rfl, hb⟩
  have L5 := ls L3 hb
  clear fx0 zx0 fx1 zx1 fx2 zx2 xx
  have Rx_5 := co Rx_3 hb
  have Ry_5 := co Ry_3 hb
  have Rr_5 := co Rr_3 hb
  have Rsl_5 := co Rsl_3 hb
  have Rk_5 := co Rk_3 hb
  clear hb 
  obtain ⟨fy0, zy0, fy1, zy1, fy2, zy2, xy⟩ := ly3 Ry_5.out
  go_wp2_with fail
  refine (isz_d (x := y) D2.out).mono ?_
  rintro e w6 ⟨rfl, hb⟩
  have L6 := ls L5 hb
  clear fy0 zy0 fy1 zy1 fy2 zy2 xy
  have Rx_6 := co Rx_5 hb
  have Ry_6 := co Ry_5 hb
  have Rr_6 := co Rr_5 hb
  have Rsl_6 := co Rsl_5 hb
  have Rk_6 := co Rk_5 hb
  clear hb 
  obtain ⟨fx0, zx0, fx1, zx1, fx2, zx2, xx⟩ := ly3 Rx_6.out
  go_wp2_with fail
  refine (answer_t Rk_6.out (L6.out.get (A := A) (c := c) (xs := digs m.natAbs) (by simp)) (Nat.le_trans LM.out (by omega)) HQ.out).mono ?_
  rintro e wz ⟨Az, cz, rfl, hd, hb⟩
  clear fx0 zx0 fx1 zx1 fx2 zx2 xx
  have Rr_z := Lib.hid ((hb.block (w.heap.size + 1 + 1) (by omega)).trans Rr_6.out)
  have Lz := Lib.hid (live_upto L6.out.1 hb Gk hd)
  clear hd hb
  obtain ⟨fr0, zr0, fr1, zr1, fr2, zr2, xr⟩ := ly3 Rr_z.out
  go_wp2
  refine bodyPost_ret (v := .tuple #[.agg #[.bool (decide (K < 0)), .slice Az (digs K.natAbs).length cz, .int .i64 F], .int .i64 V]) (by simp [results, Tryd.results23, go_sem, fr0, fr1, fr2]) rfl ?_
  
  refine ⟨Az, cz, rfl, ?_, ?_⟩
  · exact (fin3 Lz.out Rr_z.out noint3 Gr).get (A := Az) (c := cz) (xs := digs K.natAbs) (by simp)
  · exact (fin3 Lz.out Rr_z.out noint3 Gr).1

set_option maxHeartbeats 4000000 in
set_option maxRecDepth 100000 in
theorem tadd_b_ (A B : Option Addr) (c d : Nat) (m n x y : Int) (M E : Int) (w : World) (h : Dg w A c (digs m.natAbs)) (h' : Dg w B d (digs n.natAbs)) (hl : (digs m.natAbs).length ≤ 10000) (hl' : (digs n.natAbs).length ≤ 10000) (r1 : Rt m x) (r2 : Rt n y) (hT : T32 w) (hs : IsD (dv m x + dv n y) M E) (hlm : (digs M.natAbs).length ≤ 900000) {K F V : Int} (hq : tot M E = (K, F, V)) (m0 : m ≠ 0) (n0 : n ≠ 0):
    Calls Tryd.prog 23 #[.agg #[.bool (decide (m < 0)), .slice A (digs m.natAbs).length c, .int .i64 x], .agg #[.bool (decide (n < 0)), .slice B (digs n.natAbs).length d, .int .i64 y]] w fun e w' => Ye K F V w e w' := by
  have HR1 := Lib.hid r1
  have HR2 := Lib.hid r2
  have lx := Lib.hid hl
  have ly := Lib.hid hl'
  have HQ := Lib.hid hq
  have x0 := r1.2.1
  have x1 := r1.2.2
  have y0 := r2.2.1
  have y1 := r2.2.2
  have LM := Lib.hid hlm
  have d1 : decide (m = 0) = false := by simp [m0]
  have d2 : decide (n = 0) = false := by simp [n0]
  obtain ⟨e0, he0⟩ : ∃ e, min x y = e := ⟨_, rfl⟩
  have ez := sum_upto m x n y
  rw [he0] at ez
  have lp := upto_len2 (m := m) (x := x) (e0 := e0) hl (by omega)
  have lq := upto_len2 (m := n) (x := y) (e0 := e0) hl' (by omega)
  have hu := IsD.of (m := upto m x e0 + upto n y e0) (e := e0) (M := M) (E := E) (by rw [ez]; exact hs)
  obtain ⟨p, hp⟩ : ∃ e, upto m x e0 = e := ⟨_, rfl⟩
  obtain ⟨q, hq2⟩ : ∃ e, upto n y e0 = e := ⟨_, rfl⟩
  rw [hp] at lp hu
  rw [hq2] at lq hu
  obtain ⟨z, hz⟩ : ∃ z, p + q = z := ⟨_, rfl⟩
  have lz : (digs z.natAbs).length ≤ 20001 := by
    rw [← hz]
    have h1 := digs_len_mono _ _ (by omega : (p + q).natAbs ≤ p.natAbs + q.natAbs)
    have h2 := digs_add_len p.natAbs q.natAbs
    omega
  rw [hz] at hu
  have HM := Lib.hid hu.1
  have HE := Lib.hid hu.2
  have HP := Lib.hid hp
  have HQ2 := Lib.hid hq2
  have HE0 := Lib.hid he0
  have HZ := Lib.hid hz
  have LP := Lib.hid lp
  have LQ := Lib.hid lq
  have LZ := Lib.hid lz
  have z0 : -1000000000 ≤ e0 := by omega
  have z1 : e0 ≤ 1000000000 := by omega
  have D1 := Lib.hid d1
  have D2 := Lib.hid d2
  have HT := Lib.hid hT
  clear hT
  have L0 := Lib.hid (((live_start w).add h).add h')
  clear h h' hl hl' r1 r2 hs hq d1 m0 d2 n0 hu hp hq2 lp lq lz he0 hz ez
  go_enter Tryd.func23, Tryd.ntmps23
  go_wp2_with fail
  obtain ⟨v1, hW, hb, Rx_1, Ry_1, Rr_1, Rsl_1⟩ := new4 w (.cells #[.bool (decide (m < 0)), .slice A (digs m.natAbs).length c, .int .i64 x] 26) (.cells #[.bool (decide (n < 0)), .slice B (digs n.natAbs).length d, .int .i64 y] 26) (.cells #[.bool false, .slice none 0 0, .int .i64 0] 26) (.cells #[.bool (decide (m < 0)), .slice A (digs m.natAbs).length c, .int .i64 x, .bool (decide (n < 0)), .slice B (digs n.natAbs).length d, .int .i64 y] 26)
  rw [← hW]
  have L1 := ls L0 hb
  have Gx := gl0 L0.out
  have Gy := gl1 L0.out
  have Nxy : w.heap.size < w.heap.size + 1 := by omega
  have Gr := gl2 L0.out
  have Nxr : w.heap.size < w.heap.size + 1 + 1 := by omega
  have Nyr : w.heap.size + 1 < w.heap.size + 1 + 1 := by omega
  have Gsl := gl3 L0.out
  have Nxsl : w.heap.size < w.heap.size + 1 + 1 + 1 := by omega
  have Nysl : w.heap.size + 1 < w.heap.size + 1 + 1 + 1 := by omega
  have Nrsl : w.heap.size + 1 + 1 < w.heap.size + 1 + 1 + 1 := by omega
  clear hW hb
  refine (begin_2 Rsl_1.out (L1.out.get (A := A) (c := c) (xs := digs m.natAbs) (by simp)) (L1.out.get (A := B) (c := d) (xs := digs n.natAbs) (by simp)) (dyR_num HR1.out) (dyR_num HR2.out) (Nat.le_trans lx.out (by omega)) (Nat.le_trans ly.out (by omega)) (k := 0) rfl).mono ?_
  rintro e w2 ⟨rfl, hb⟩
  have L2 := ls L1 hb
  have Rx_2 := co Rx_1 hb
  have Ry_2 := co Ry_1 hb
  have Rr_2 := co Rr_1 hb
  have Rsl_2 := co Rsl_1 hb
  clear hb 
  go_wp2_with fail
  obtain ⟨w3, hW, hb, Rk_3⟩ := new1 w2 (.cells #[.int .i64 0] 66)
  rw [← hW]
  have L3 := ls L2 hb
  have Rx_3 := co Rx_2 hb
  have Ry_3 := co Ry_2 hb
  have Rr_3 := co Rr_2 hb
  have Rsl_3 := co Rsl_2 hb
  have Gk := gl0 L2.out
  have Nxk := nl0 Rx_2.out
  have Nyk := nl0 Ry_2.out
  have Nrk := nl0 Rr_2.out
  have Nslk := nl0 Rsl_2.out
  clear hW hb
  refine (fails_any _ 0 false _ (row_c Rk_3.out (i := 0) rfl) rfl).mono ?_
  rintro e w4 ⟨rfl, rfl⟩
  obtain ⟨fx0, zx0, fx1, zx1, fx2, zx2, xx⟩ := ly3 Rx_3.out
  go_wp2_with fail
  refine (isz_d (x := x) D1.out).mono ?_
  rintro e w5 ⟨rfl, hb⟩
  have L5 := ls L3 hb
  clear fx0 zx0 fx1 zx1 fx2 zx2 xx
  have Rx_5 := co Rx_3 hb
  have Ry_5 := co Ry_3 hb
  have Rr_5 := co Rr_3 hb
  have Rsl_5 := co Rsl_3 hb
  have Rk_5 := co Rk_3 hb
  clear hb 
  obtain ⟨fy0, zy0, fy1, zy1, fy2, zy2, xy⟩ := ly3 Ry_5.out
  go_wp2_with fail
  refine (isz_d (x := y) D2.out).mono ?_
  rintro e w6 ⟨rfl, hb⟩
  have L6 := ls L5 hb
  clear fy0 zy0 fy1 zy1 fy2 zy2 xy
  have Rx_6 := co Rx_5 hb
  have Ry_6 := co Ry_5 hb
  have Rr_6 := co Rr_5 hb
  have Rsl_6 := co Rsl_5 hb
  have Rk_6 := co Rk_5 hb
  clear hb 
  obtain ⟨fx0, zx0, fx1, zx1, fx2, zx2, xx⟩ := ly3 Rx_6.out
  obtain ⟨fy0, zy0, fy1, zy1, fy2, zy2, xy⟩ := ly3 Ry_6.out
  go_wp2_with fail
  refine (beside_any (p := p) (q := q) (e0 := e0) (L6.out.get (A := A) (c := c) (xs := digs m.natAbs) (by simp)) (L6.out.get (A := B) (c := d) (xs := digs n.natAbs) (by simp)) (Nat.le_trans lx.out (by omega)) (Nat.le_trans ly.out (by omega)) x0 x1 y0 y1 HE0.out HP.out HQ2.out).mono ?_
  rintro e w7 ⟨A7, c7, B7, d7, rfl, hd, hd', hb⟩
  have L7 := Lib.hid (((L6.out.step hb).add hd).add hd')
  clear fx0 zx0 fx1 zx1 fx2 zx2 xx fy0 zy0 fy1 zy1 fy2 zy2 xy
  have Rx_7 := co Rx_6 hb
  have Ry_7 := co Ry_6 hb
  have Rr_7 := co Rr_6 hb
  have Rsl_7 := co Rsl_6 hb
  have Rk_7 := co Rk_6 hb
  clear hb hd hd'
  go_wp2_with fail
  obtain ⟨w8, hW, hb, Ra_8, Rb_8⟩ := new2 w7 (.cells #[.bool (decide (p < 0)), .slice A7 (digs p.natAbs).length c7] 24) (.cells #[.bool (decide (q < 0)), .slice B7 (digs q.natAbs).length d7] 24)
  rw [← hW]
  have L8 := ls L7 hb
  have Rx_8 := co Rx_7 hb
  have Ry_8 := co Ry_7 hb
  have Rr_8 := co Rr_7 hb
  have Rsl_8 := co Rsl_7 hb
  have Rk_8 := co Rk_7 hb
  have Ga := gl0 L7.out
  have Nxa := nl0 Rx_7.out
  have Nya := nl0 Ry_7.out
  have Nra := nl0 Rr_7.out
  have Nsla := nl0 Rsl_7.out
  have Nka := nl0 Rk_7.out
  have Gb := gl1 L7.out
  have Nxb := nl1 Rx_7.out
  have Nyb := nl1 Ry_7.out
  have Nrb := nl1 Rr_7.out
  have Nslb := nl1 Rsl_7.out
  have Nkb := nl1 Rk_7.out
  have Nab : w7.heap.size < w7.heap.size + 1 := by omega
  clear hW hb
  refine (zadd_d (L8.out.get (A := A7) (c := c7) (xs := digs p.natAbs) (by simp)) (L8.out.get (A := B7) (c := d7) (xs := digs q.natAbs) (by simp)) (Nat.le_trans LP.out (by omega)) (Nat.le_trans LQ.out (by omega)) HZ.out).mono ?_
  rintro e w9 ⟨A9, c9, rfl, hd, hb⟩
  have L9 := la L8 hb hd
  have Rx_9 := co Rx_8 hb
  have Ry_9 := co Ry_8 hb
  have Rr_9 := co Rr_8 hb
  have Rsl_9 := co Rsl_8 hb
  have Rk_9 := co Rk_8 hb
  have Ra_9 := co Ra_8 hb
  have Rb_9 := co Rb_8 hb
  clear hb hd
  go_wp2_with fail
  refine (odd_d (L9.out.get (A := A9) (c := c9) (xs := digs z.natAbs) (by simp)) (Nat.le_trans LZ.out (by omega)) (t32_live HT.out L9.out) z0 z1 HM.out HE.out).mono ?_
  rintro e w10 ⟨A10, c10, rfl, hd, hb⟩
  have L10 := la L9 hb hd
  have Rx_10 := co Rx_9 hb
  have Ry_10 := co Ry_9 hb
  have Rr_10 := co Rr_9 hb
  have Rsl_10 := co Rsl_9 hb
  have Rk_10 := co Rk_9 hb
  have Ra_10 := co Ra_9 hb
  have Rb_10 := co Rb_9 hb
  clear hb hd
  go_wp2_with fail
  refine (answer_t Rk_10.out (L10.out.get (A := A10) (c := c10) (xs := digs M.natAbs) (by simp)) (Nat.le_trans LM.out (by omega)) HQ.out).mono ?_
  rintro e wz ⟨Az, cz, rfl, hd, hb⟩
  have Rr_z := Lib.hid ((hb.block (w.heap.size + 1 + 1) (by omega)).trans Rr_10.out)
  have Lz := Lib.hid (live_upto L10.out.1 hb Gk hd)
  clear hd hb
  obtain ⟨fr0, zr0, fr1, zr1, fr2, zr2, xr⟩ := ly3 Rr_z.out
  go_wp2
  refine bodyPost_ret (v := .tuple #[.agg #[.bool (decide (K < 0)), .slice Az (digs K.natAbs).length cz, .int .i64 F], .int .i64 V]) (by simp [results, Tryd.results23, go_sem, fr0, fr1, fr2]) rfl ?_
  
  refine ⟨Az, cz, rfl, ?_, ?_⟩
  · exact (fin3 Lz.out Rr_z.out noint3 Gr).get (A := Az) (c := cz) (xs := digs K.natAbs) (by simp)
  · exact (fin3 Lz.out Rr_z.out noint3 Gr).1

set_option maxHeartbeats 4000000 in
set_option maxRecDepth 100000 in
theorem tscale_yes_ (A : Option Addr) (c : Nat) (m x n M E : Int) (w : World) (h : Dg w A c (digs m.natAbs)) (hl : (digs m.natAbs).length ≤ 10000) (r1 : Rt m x) (hT : T32 w) (n0 : -100000 ≤ n) (n1 : n ≤ 100000) (hs : IsD (dv m (x + n)) M E) (hlm : (digs M.natAbs).length ≤ 900000) {K F V : Int} (hq : tot M E = (K, F, V)):
    Calls Tryd.prog 29 #[.agg #[.bool (decide (m < 0)), .slice A (digs m.natAbs).length c, .int .i64 x], .int .i64 n] w fun e w' => Ye K F V w e w' := by
  have HR1 := Lib.hid r1
  have lx := Lib.hid hl
  have HQ := Lib.hid hq
  have x0 := r1.2.1
  have x1 := r1.2.2
  have LM := Lib.hid hlm
  obtain ⟨s, hs1⟩ : ∃ s, x + n = s := ⟨_, rfl⟩
  rw [hs1] at hs
  have hu := IsD.of hs
  have HM := Lib.hid hu.1
  have HE := Lib.hid hu.2
  have HS1 := Lib.hid hs1
  have d1 : decide (n < -100000) = false := by simp; omega
  have d2 : decide (100000 < n) = false := by simp; omega
  have z0 : -1000000000 ≤ x + n := by omega
  have z1 : x + n ≤ 1000000000 := by omega
  have HE2 := Lib.hid (show nx m (x + n) = E by rw [hs1]; exact hu.2)
  have HT := Lib.hid hT
  clear hT
  have L0 := Lib.hid ((live_start w).add h)
  clear h hl r1 hs hq hs1 hu
  go_enter Tryd.func29, Tryd.ntmps29
  go_wp2_with fail
  obtain ⟨v1, hW, hb, Rx_1, Rr_1, Rsl_1⟩ := new3 w (.cells #[.bool (decide (m < 0)), .slice A (digs m.natAbs).length c, .int .i64 x] 26) (.cells #[.bool false, .slice none 0 0, .int .i64 0] 26) (.cells #[.bool (decide (m < 0)), .slice A (digs m.natAbs).length c, .int .i64 x] 26)
  rw [← hW]
  have L1 := ls L0 hb
  have Gx := gl0 L0.out
  have Gr := gl1 L0.out
  have Nxr : w.heap.size < w.heap.size + 1 := by omega
  have Gsl := gl2 L0.out
  have Nxsl : w.heap.size < w.heap.size + 1 + 1 := by omega
  have Nrsl : w.heap.size + 1 < w.heap.size + 1 + 1 := by omega
  clear hW hb
  refine (begin_1 Rsl_1.out (L1.out.get (A := A) (c := c) (xs := digs m.natAbs) (by simp)) (dyR_num HR1.out) (Nat.le_trans lx.out (by omega)) (k := 0) rfl).mono ?_
  rintro e w2 ⟨rfl, hb⟩
  have L2 := ls L1 hb
  have Rx_2 := co Rx_1 hb
  have Rr_2 := co Rr_1 hb
  have Rsl_2 := co Rsl_1 hb
  clear hb 
  go_wp2_with fail
  obtain ⟨w3, hW, hb, Rk_3⟩ := new1 w2 (.cells #[.int .i64 0] 66)
  rw [← hW]
  have L3 := ls L2 hb
  have Rx_3 := co Rx_2 hb
  have Rr_3 := co Rr_2 hb
  have Rsl_3 := co Rsl_2 hb
  have Gk := gl0 L2.out
  have Nxk := nl0 Rx_2.out
  have Nrk := nl0 Rr_2.out
  have Nslk := nl0 Rsl_2.out
  clear hW hb
  refine (tell_no _ 0 4 false _ (row_c Rk_3.out (i := 0) rfl) (.inl rfl)).mono ?_
  rintro e w4 ⟨rfl, rfl⟩
  go_wp2_with fail
  refine (fails_any _ 0 false _ (row_c Rk_3.out (i := 0) rfl) rfl).mono ?_
  rintro e w5 ⟨rfl, rfl⟩
  obtain ⟨fx0, zx0, fx1, zx1, fx2, zx2, xx⟩ := ly3 Rx_3.out
  go_wp2_with fail
  refine (odd_d (L3.out.get (A := A) (c := c) (xs := digs m.natAbs) (by simp)) (Nat.le_trans lx.out (by omega)) (t32_live HT.out L3.out) z0 z1 HM.out HE2.out).mono ?_
  rintro e w6 ⟨A6, c6, rfl, hd, hb⟩
  have L6 := la L3 hb hd
  clear fx0 zx0 fx1 zx1 fx2 zx2 xx
  have Rx_6 := co Rx_3 hb
  have Rr_6 := co Rr_3 hb
  have Rsl_6 := co Rsl_3 hb
  have Rk_6 := co Rk_3 hb
  clear hb hd
  go_wp2_with fail
  refine (answer_t Rk_6.out (L6.out.get (A := A6) (c := c6) (xs := digs M.natAbs) (by simp)) (Nat.le_trans LM.out (by omega)) HQ.out).mono ?_
  rintro e wz ⟨Az, cz, rfl, hd, hb⟩
  have Rr_z := Lib.hid ((hb.block (w.heap.size + 1) (by omega)).trans Rr_6.out)
  have Lz := Lib.hid (live_upto L6.out.1 hb Gk hd)
  clear hd hb
  obtain ⟨fr0, zr0, fr1, zr1, fr2, zr2, xr⟩ := ly3 Rr_z.out
  go_wp2
  refine bodyPost_ret (v := .tuple #[.agg #[.bool (decide (K < 0)), .slice Az (digs K.natAbs).length cz, .int .i64 F], .int .i64 V]) (by simp [results, Tryd.results29, go_sem, fr0, fr1, fr2]) rfl ?_
  
  refine ⟨Az, cz, rfl, ?_, ?_⟩
  · exact (fin3 Lz.out Rr_z.out noint3 Gr).get (A := Az) (c := cz) (xs := digs K.natAbs) (by simp)
  · exact (fin3 Lz.out Rr_z.out noint3 Gr).1

set_option maxHeartbeats 4000000 in
set_option maxRecDepth 100000 in
theorem tround_s_ (A : Option Addr) (c : Nat) (m x P M E : Int) (up : Bool) (w : World) (h : Dg w A c (digs m.natAbs)) (hl : (digs m.natAbs).length ≤ 10000) (r1 : Rt m x) (hT : T32 w) {p : Nat} (hP : (p : Int) = P) (p2 : 2 ≤ p) (p4 : p ≤ 400) (hs : RdOf (dv m x) p up M E) (hlm : (digs M.natAbs).length ≤ 900000) {K F V : Int} (hq : tot M E = (K, F, V)) (hc : bl m ≤ p):
    Calls Tryd.prog 31 #[.agg #[.bool (decide (m < 0)), .slice A (digs m.natAbs).length c, .int .i64 x], .int .i64 P, .bool up] w fun e w' => Ye K F V w e w' := by
  have HR1 := Lib.hid r1
  have lx := Lib.hid hl
  have HQ := Lib.hid hq
  have x0 := r1.2.1
  have x1 := r1.2.2
  have LM := Lib.hid hlm
  have HPR := Lib.hid (precB_in (P := P) (by omega) (by omega))
  have b1 := bl_bd hl
  obtain ⟨z, hz⟩ : ∃ z : Int, (blen m.natAbs : Int) = z := ⟨_, rfl⟩
  have HZ := Lib.hid hz
  have d1 : decide (z ≤ P) = true := by simp; unfold bl at hc; omega
  obtain ⟨rfl, rfl⟩ := RdOf.uniq (rd_self (up := up) r1.1 hc) hs
  have HT := Lib.hid hT
  clear hT
  have L0 := Lib.hid ((live_start w).add h)
  clear h hl r1 hs hq hP hz b1 hc
  go_enter Tryd.func31, Tryd.ntmps31
  go_wp2_with fail
  obtain ⟨v1, hW, hb, Rx_1, Rr_1, Rsl_1⟩ := new3 w (.cells #[.bool (decide (m < 0)), .slice A (digs m.natAbs).length c, .int .i64 x] 26) (.cells #[.bool false, .slice none 0 0, .int .i64 0] 26) (.cells #[.bool (decide (m < 0)), .slice A (digs m.natAbs).length c, .int .i64 x] 26)
  rw [← hW]
  have L1 := ls L0 hb
  have Gx := gl0 L0.out
  have Gr := gl1 L0.out
  have Nxr : w.heap.size < w.heap.size + 1 := by omega
  have Gsl := gl2 L0.out
  have Nxsl : w.heap.size < w.heap.size + 1 + 1 := by omega
  have Nrsl : w.heap.size + 1 < w.heap.size + 1 + 1 := by omega
  clear hW hb
  refine (begin_1 Rsl_1.out (L1.out.get (A := A) (c := c) (xs := digs m.natAbs) (by simp)) (dyR_num HR1.out) (Nat.le_trans lx.out (by omega)) (k := 0) rfl).mono ?_
  rintro e w2 ⟨rfl, hb⟩
  have L2 := ls L1 hb
  have Rx_2 := co Rx_1 hb
  have Rr_2 := co Rr_1 hb
  have Rsl_2 := co Rsl_1 hb
  clear hb 
  go_wp2_with fail
  obtain ⟨w3, hW, hb, Rk_3⟩ := new1 w2 (.cells #[.int .i64 0] 66)
  rw [← hW]
  have L3 := ls L2 hb
  have Rx_3 := co Rx_2 hb
  have Rr_3 := co Rr_2 hb
  have Rsl_3 := co Rsl_2 hb
  have Gk := gl0 L2.out
  have Nxk := nl0 Rx_2.out
  have Nrk := nl0 Rr_2.out
  have Nslk := nl0 Rsl_2.out
  clear hW hb
  refine (precision_no _ 0 P _ (row_c Rk_3.out (i := 0) rfl) (.inl HPR.out)).mono ?_
  rintro e w4 ⟨rfl, rfl⟩
  go_wp2_with fail
  refine (fails_any _ 0 false _ (row_c Rk_3.out (i := 0) rfl) rfl).mono ?_
  rintro e w5 ⟨rfl, rfl⟩
  obtain ⟨fx0, zx0, fx1, zx1, fx2, zx2, xx⟩ := ly3 Rx_3.out
  go_wp2_with fail
  refine (bits_b (L3.out.get (A := A) (c := c) (xs := digs m.natAbs) (by simp)) (Nat.le_trans lx.out (by omega)) HZ.out).mono ?_
  rintro e w6 ⟨rfl, rfl⟩
  clear fx0 zx0 fx1 zx1 fx2 zx2 xx
  obtain ⟨fx0, zx0, fx1, zx1, fx2, zx2, xx⟩ := ly3 Rx_3.out
  go_wp2_with fail
  refine (answer_t Rk_3.out (L3.out.get (A := A) (c := c) (xs := digs m.natAbs) (by simp)) (Nat.le_trans LM.out (by omega)) HQ.out).mono ?_
  rintro e wz ⟨Az, cz, rfl, hd, hb⟩
  clear fx0 zx0 fx1 zx1 fx2 zx2 xx
  have Rr_z := Lib.hid ((hb.block (w.heap.size + 1) (by omega)).trans Rr_3.out)
  have Lz := Lib.hid (live_upto L3.out.1 hb Gk hd)
  clear hd hb
  obtain ⟨fr0, zr0, fr1, zr1, fr2, zr2, xr⟩ := ly3 Rr_z.out
  go_wp2
  refine bodyPost_ret (v := .tuple #[.agg #[.bool (decide (K < 0)), .slice Az (digs K.natAbs).length cz, .int .i64 F], .int .i64 V]) (by simp [results, Tryd.results31, go_sem, fr0, fr1, fr2]) rfl ?_
  
  refine ⟨Az, cz, rfl, ?_, ?_⟩
  · exact (fin3 Lz.out Rr_z.out noint3 Gr).get (A := Az) (c := cz) (xs := digs K.natAbs) (by simp)
  · exact (fin3 Lz.out Rr_z.out noint3 Gr).1

set_option maxHeartbeats 4000000 in
set_option maxRecDepth 100000 in
theorem tround_b_ (A : Option Addr) (c : Nat) (m x P M E : Int) (up : Bool) (w : World) (h : Dg w A c (digs m.natAbs)) (hl : (digs m.natAbs).length ≤ 10000) (r1 : Rt m x) (hT : T32 w) {p : Nat} (hP : (p : Int) = P) (p2 : 2 ≤ p) (p4 : p ≤ 400) (hs : RdOf (dv m x) p up M E) (hlm : (digs M.natAbs).length ≤ 900000) {K F V : Int} (hq : tot M E = (K, F, V)) (hc : p < bl m):
    Calls Tryd.prog 31 #[.agg #[.bool (decide (m < 0)), .slice A (digs m.natAbs).length c, .int .i64 x], .int .i64 P, .bool up] w fun e w' => Ye K F V w e w' := by
  have HR1 := Lib.hid r1
  have lx := Lib.hid hl
  have HQ := Lib.hid hq
  have x0 := r1.2.1
  have x1 := r1.2.2
  have LM := Lib.hid hlm
  have HPR := Lib.hid (precB_in (P := P) (by omega) (by omega))
  have b1 := bl_bd hl
  obtain ⟨z, hz⟩ : ∃ z : Int, (blen m.natAbs : Int) = z := ⟨_, rfl⟩
  have HZ := Lib.hid hz
  have d1 : decide (z ≤ P) = false := by simp; unfold bl at hc; omega
  have hk := rd_kept (q := m.natAbs) (p := p) (more := false) (up := up) (s := decide (m < 0)) (r := dv (m.natAbs : Int) x) (e := x) (by unfold bl at hc; omega) (by omega) Rat.le_refl (dv_lt.2 (by omega)) (by simp)
  rw [← dv_sign] at hk
  have hu := RdOf.uniq hk hs
  have HM := Lib.hid hu.1
  have HE := Lib.hid hu.2
  have HP2 := Lib.hid hP
  have HB := Lib.hid (show p ≤ blen m.natAbs by unfold bl at hc; omega)
  have HT := Lib.hid hT
  clear hT
  have L0 := Lib.hid ((live_start w).add h)
  clear h hl r1 hs hq hP hz b1 hc hk hu
  go_enter Tryd.func31, Tryd.ntmps31
  go_wp2_with fail
  obtain ⟨v1, hW, hb, Rx_1, Rr_1, Rsl_1⟩ := new3 w (.cells #[.bool (decide (m < 0)), .slice A (digs m.natAbs).length c, .int .i64 x] 26) (.cells #[.bool false, .slice none 0 0, .int .i64 0] 26) (.cells #[.bool (decide (m < 0)), .slice A (digs m.natAbs).length c, .int .i64 x] 26)
  rw [← hW]
  have L1 := ls L0 hb
  have Gx := gl0 L0.out
  have Gr := gl1 L0.out
  have Nxr : w.heap.size < w.heap.size + 1 := by omega
  have Gsl := gl2 L0.out
  have Nxsl : w.heap.size < w.heap.size + 1 + 1 := by omega
  have Nrsl : w.heap.size + 1 < w.heap.size + 1 + 1 := by omega
  clear hW hb
  refine (begin_1 Rsl_1.out (L1.out.get (A := A) (c := c) (xs := digs m.natAbs) (by simp)) (dyR_num HR1.out) (Nat.le_trans lx.out (by omega)) (k := 0) rfl).mono ?_
  rintro e w2 ⟨rfl, hb⟩
  have L2 := ls L1 hb
  have Rx_2 := co Rx_1 hb
  have Rr_2 := co Rr_1 hb
  have Rsl_2 := co Rsl_1 hb
  clear hb 
  go_wp2_with fail
  obtain ⟨w3, hW, hb, Rk_3⟩ := new1 w2 (.cells #[.int .i64 0] 66)
  rw [← hW]
  have L3 := ls L2 hb
  have Rx_3 := co Rx_2 hb
  have Rr_3 := co Rr_2 hb
  have Rsl_3 := co Rsl_2 hb
  have Gk := gl0 L2.out
  have Nxk := nl0 Rx_2.out
  have Nrk := nl0 Rr_2.out
  have Nslk := nl0 Rsl_2.out
  clear hW hb
  refine (precision_no _ 0 P _ (row_c Rk_3.out (i := 0) rfl) (.inl HPR.out)).mono ?_
  rintro e w4 ⟨rfl, rfl⟩
  go_wp2_with fail
  refine (fails_any _ 0 false _ (row_c Rk_3.out (i := 0) rfl) rfl).mono ?_
  rintro e w5 ⟨rfl, rfl⟩
  obtain ⟨fx0, zx0, fx1, zx1, fx2, zx2, xx⟩ := ly3 Rx_3.out
  go_wp2_with fail
  refine (bits_b (L3.out.get (A := A) (c := c) (xs := digs m.natAbs) (by simp)) (Nat.le_trans lx.out (by omega)) HZ.out).mono ?_
  rintro e w6 ⟨rfl, rfl⟩
  clear fx0 zx0 fx1 zx1 fx2 zx2 xx
  obtain ⟨fx0, zx0, fx1, zx1, fx2, zx2, xx⟩ := ly3 Rx_3.out
  go_wp2_with fail
  refine (cut_any A c (decide (m < 0)) up false m.natAbs x P p M E _ (L3.out.get (A := A) (c := c) (xs := digs m.natAbs) (by simp)) (Nat.le_trans lx.out (by omega)) (t32_live HT.out L3.out) HP2.out p2 p4 HB.out (by omega) (by omega) HM.out HE.out).mono ?_
  rintro e w7 ⟨A7, c7, rfl, hd, hb⟩
  have L7 := la L3 hb hd
  clear fx0 zx0 fx1 zx1 fx2 zx2 xx
  have Rx_7 := co Rx_3 hb
  have Rr_7 := co Rr_3 hb
  have Rsl_7 := co Rsl_3 hb
  have Rk_7 := co Rk_3 hb
  clear hb hd
  go_wp2_with fail
  refine (answer_t Rk_7.out (L7.out.get (A := A7) (c := c7) (xs := digs M.natAbs) (by simp)) (Nat.le_trans LM.out (by omega)) HQ.out).mono ?_
  rintro e wz ⟨Az, cz, rfl, hd, hb⟩
  have Rr_z := Lib.hid ((hb.block (w.heap.size + 1) (by omega)).trans Rr_7.out)
  have Lz := Lib.hid (live_upto L7.out.1 hb Gk hd)
  clear hd hb
  obtain ⟨fr0, zr0, fr1, zr1, fr2, zr2, xr⟩ := ly3 Rr_z.out
  go_wp2
  refine bodyPost_ret (v := .tuple #[.agg #[.bool (decide (K < 0)), .slice Az (digs K.natAbs).length cz, .int .i64 F], .int .i64 V]) (by simp [results, Tryd.results31, go_sem, fr0, fr1, fr2]) rfl ?_
  
  refine ⟨Az, cz, rfl, ?_, ?_⟩
  · exact (fin3 Lz.out Rr_z.out noint3 Gr).get (A := Az) (c := cz) (xs := digs K.natAbs) (by simp)
  · exact (fin3 Lz.out Rr_z.out noint3 Gr).1
end Go.Proofs.YtaciohjobenipaaDoor
end

section
/-
  ref05, any numbers: Right, inRange, told, lift of nought.
-/
namespace Go.Proofs.YtaciohjobenipaaDoor
open Go.RowKit
set_option linter.unusedSimpArgs false
set_option linter.unusedVariables false
set_option maxHeartbeats 4000000 in
set_option maxRecDepth 100000 in
theorem r5right_z0 (A : Option Addr) (c : Nat) (s : Bool) (xs : List Nat) (x : Int) (w : World) (h : Dg w A c xs) (hl : xs.length ≤ 9223372036854775807) (h0 : xs.length = 0) (hs : s = false) {q : Bool} (hq : (x == 0) = q):
    Calls Tryd.prog 22 #[.agg #[.bool s, .slice A xs.length c, .int .i64 x]] w fun e w' => e = .returned (.bool q) ∧ Below w.heap.size w w' := by
  have HL := Lib.hid hl
  have t0 : ((xs.length : Int) == 0) = true := by rw [h0]; rfl
  subst hs
  have HR := Lib.hid (show rightB false xs = true by unfold rightB; rw [if_pos h0]; rfl)
  have HQ := Lib.hid hq
  have L0 := Lib.hid ((live_start w).add h)
  clear h hl h0 hq
  go_enter Tryd.func22, Tryd.ntmps22
  go_wp2_with fail
  obtain ⟨v1, hW, hb, Rx_1⟩ := new1 w (.cells #[.bool false, .slice A xs.length c, .int .i64 x] 26)
  rw [← hW]
  have L1 := ls L0 hb
  have Gx := gl0 L0.out
  clear hW hb
  refine (rright_any A c false xs _ (L1.out.get (A := A) (c := c) (xs := xs) (by simp)) _ HR.out HL.out).mono ?_
  rintro e w2 ⟨rfl, hb⟩
  have L2 := ls L1 hb
  have Rx_2 := co Rx_1 hb
  clear hb 
  obtain ⟨fx0, zx0, fx1, zx1, fx2, zx2, xx⟩ := ly3 Rx_2.out
  go_wp2
  go_ret
  exact ⟨ret_b HQ.out, L2.out.1⟩

set_option maxHeartbeats 4000000 in
set_option maxRecDepth 100000 in
theorem r5right_z1 (A : Option Addr) (c : Nat) (s : Bool) (xs : List Nat) (x : Int) (w : World) (h : Dg w A c xs) (hl : xs.length ≤ 9223372036854775807) (h0 : xs.length = 0) (hs : s = true):
    Calls Tryd.prog 22 #[.agg #[.bool s, .slice A xs.length c, .int .i64 x]] w fun e w' => e = .returned (.bool false) ∧ Below w.heap.size w w' := by
  have HL := Lib.hid hl
  have t0 : ((xs.length : Int) == 0) = true := by rw [h0]; rfl
  subst hs
  have HR := Lib.hid (show rightB true xs = false by unfold rightB; rw [if_pos h0]; rfl)
  have L0 := Lib.hid ((live_start w).add h)
  clear h hl h0
  go_enter Tryd.func22, Tryd.ntmps22
  go_wp2_with fail
  obtain ⟨v1, hW, hb, Rx_1⟩ := new1 w (.cells #[.bool true, .slice A xs.length c, .int .i64 x] 26)
  rw [← hW]
  have L1 := ls L0 hb
  have Gx := gl0 L0.out
  clear hW hb
  refine (rright_any A c true xs _ (L1.out.get (A := A) (c := c) (xs := xs) (by simp)) _ HR.out HL.out).mono ?_
  rintro e w2 ⟨rfl, hb⟩
  have L2 := ls L1 hb
  have Rx_2 := co Rx_1 hb
  clear hb 
  obtain ⟨fx0, zx0, fx1, zx1, fx2, zx2, xx⟩ := ly3 Rx_2.out
  go_wp2
  go_ret
  exact ⟨rfl, L2.out.1⟩

set_option maxHeartbeats 4000000 in
set_option maxRecDepth 100000 in
theorem r5right_w (A : Option Addr) (c : Nat) (s : Bool) (xs : List Nat) (x : Int) (w : World) (h : Dg w A c xs) (hl : xs.length ≤ 9223372036854775807) (h0 : xs.length ≠ 0) (hr : rightB s xs = false):
    Calls Tryd.prog 22 #[.agg #[.bool s, .slice A xs.length c, .int .i64 x]] w fun e w' => e = .returned (.bool false) ∧ Below w.heap.size w w' := by
  have HL := Lib.hid hl
  have HR := Lib.hid hr
  have t0 : ((xs.length : Int) == 0) = false := beq_eq_false_iff_ne.2 (by omega)
  have L0 := Lib.hid ((live_start w).add h)
  clear h hl hr h0
  go_enter Tryd.func22, Tryd.ntmps22
  go_wp2_with fail
  obtain ⟨v1, hW, hb, Rx_1⟩ := new1 w (.cells #[.bool s, .slice A xs.length c, .int .i64 x] 26)
  rw [← hW]
  have L1 := ls L0 hb
  have Gx := gl0 L0.out
  clear hW hb
  refine (rright_any A c s xs _ (L1.out.get (A := A) (c := c) (xs := xs) (by simp)) _ HR.out HL.out).mono ?_
  rintro e w2 ⟨rfl, hb⟩
  have L2 := ls L1 hb
  have Rx_2 := co Rx_1 hb
  clear hb 
  obtain ⟨fx0, zx0, fx1, zx1, fx2, zx2, xx⟩ := ly3 Rx_2.out
  go_wp2
  go_ret
  exact ⟨rfl, L2.out.1⟩

set_option maxHeartbeats 4000000 in
set_option maxRecDepth 100000 in
theorem r5right_e (A : Option Addr) (c : Nat) (s : Bool) (xs : List Nat) (x : Int) (w : World) (h : Dg w A c xs) (hl : xs.length ≤ 9223372036854775807) (h0 : xs.length ≠ 0) (hr : rightB s xs = true) (ho : decide (xs[0]?.getD 0 % 2 = 1) = false):
    Calls Tryd.prog 22 #[.agg #[.bool s, .slice A xs.length c, .int .i64 x]] w fun e w' => e = .returned (.bool false) ∧ Below w.heap.size w w' := by
  have HL := Lib.hid hl
  have HR := Lib.hid hr
  have t0 : ((xs.length : Int) == 0) = false := beq_eq_false_iff_ne.2 (by omega)
  have hp : 0 < xs.length := by omega
  have hc1 : 0 < c := by have := h.1; omega
  obtain ⟨b, off, hA, hb, hc⟩ := h.2.2 hp
  have hx0 := hc 0 hp
  rw [Nat.add_zero] at hx0
  have H := Lib.hid h
  generalize xs[0]?.getD 0 = d at *
  have hd2 : (((d : Nat) : Int) % 2 == 1) = false := by rw [← ho, Bool.eq_iff_iff]; simp; omega
  have hd : (((d : Nat) : Int).tmod 2 == 1) = false := by rw [Int.tmod_eq_emod_of_nonneg (by omega)]; exact hd2
  have HB := Lib.hid hb
  have HX := Lib.hid hx0
  clear hc hx0 hb
  subst hA
  have L0 := Lib.hid ((live_start w).add h)
  clear h hl hr ho h0
  go_enter Tryd.func22, Tryd.ntmps22
  go_wp2_with fail
  obtain ⟨v1, hW, hb, Rx_1⟩ := new1 w (.cells #[.bool s, .slice (some ⟨b, off, none⟩) xs.length c, .int .i64 x] 26)
  rw [← hW]
  have L1 := ls L0 hb
  have Gx := gl0 L0.out
  clear hW hb
  refine (rright_any (some ⟨b, off, none⟩) c s xs _ (L1.out.get (A := (some ⟨b, off, none⟩)) (c := c) (xs := xs) (by simp)) _ HR.out HL.out).mono ?_
  rintro e w2 ⟨rfl, hb⟩
  have L2 := ls L1 hb
  have Rx_2 := co Rx_1 hb
  clear hb 
  have hx := (L2.out.1.cell (p := ⟨b, off, none⟩) HB.out).trans HX.out
  obtain ⟨fx0, zx0, fx1, zx1, fx2, zx2, xx⟩ := ly3 Rx_2.out
  go_wp2
  go_ret
  exact ⟨rfl, L2.out.1⟩

set_option maxHeartbeats 4000000 in
set_option maxRecDepth 100000 in
theorem r5right_l (A : Option Addr) (c : Nat) (s : Bool) (xs : List Nat) (x : Int) (w : World) (h : Dg w A c xs) (hl : xs.length ≤ 9223372036854775807) (h0 : xs.length ≠ 0) (hr : rightB s xs = true) (ho : decide (xs[0]?.getD 0 % 2 = 1) = true) (hx : x < -131072):
    Calls Tryd.prog 22 #[.agg #[.bool s, .slice A xs.length c, .int .i64 x]] w fun e w' => e = .returned (.bool false) ∧ Below w.heap.size w w' := by
  have HL := Lib.hid hl
  have HR := Lib.hid hr
  have t0 : ((xs.length : Int) == 0) = false := beq_eq_false_iff_ne.2 (by omega)
  have hp : 0 < xs.length := by omega
  have hc1 : 0 < c := by have := h.1; omega
  obtain ⟨b, off, hA, hb, hc⟩ := h.2.2 hp
  have hx0 := hc 0 hp
  rw [Nat.add_zero] at hx0
  have H := Lib.hid h
  generalize xs[0]?.getD 0 = d at *
  have hd2 : (((d : Nat) : Int) % 2 == 1) = true := by rw [← ho, Bool.eq_iff_iff]; simp; omega
  have hd : (((d : Nat) : Int).tmod 2 == 1) = true := by rw [Int.tmod_eq_emod_of_nonneg (by omega)]; exact hd2
  have HB := Lib.hid hb
  have HX := Lib.hid hx0
  clear hc hx0 hb
  subst hA
  have d1 : decide (-131072 ≤ x) = false := decide_eq_false (by omega)
  have L0 := Lib.hid ((live_start w).add h)
  clear h hl hr ho h0 hx
  go_enter Tryd.func22, Tryd.ntmps22
  go_wp2_with fail
  obtain ⟨v1, hW, hb, Rx_1⟩ := new1 w (.cells #[.bool s, .slice (some ⟨b, off, none⟩) xs.length c, .int .i64 x] 26)
  rw [← hW]
  have L1 := ls L0 hb
  have Gx := gl0 L0.out
  clear hW hb
  refine (rright_any (some ⟨b, off, none⟩) c s xs _ (L1.out.get (A := (some ⟨b, off, none⟩)) (c := c) (xs := xs) (by simp)) _ HR.out HL.out).mono ?_
  rintro e w2 ⟨rfl, hb⟩
  have L2 := ls L1 hb
  have Rx_2 := co Rx_1 hb
  clear hb 
  have hx := (L2.out.1.cell (p := ⟨b, off, none⟩) HB.out).trans HX.out
  obtain ⟨fx0, zx0, fx1, zx1, fx2, zx2, xx⟩ := ly3 Rx_2.out
  go_wp2
  go_ret
  exact ⟨rfl, L2.out.1⟩

set_option maxHeartbeats 4000000 in
set_option maxRecDepth 100000 in
theorem r5right_g (A : Option Addr) (c : Nat) (s : Bool) (xs : List Nat) (x : Int) (w : World) (h : Dg w A c xs) (hl : xs.length ≤ 9223372036854775807) (h0 : xs.length ≠ 0) (hr : rightB s xs = true) (ho : decide (xs[0]?.getD 0 % 2 = 1) = true) (hx : 131072 < x):
    Calls Tryd.prog 22 #[.agg #[.bool s, .slice A xs.length c, .int .i64 x]] w fun e w' => e = .returned (.bool false) ∧ Below w.heap.size w w' := by
  have HL := Lib.hid hl
  have HR := Lib.hid hr
  have t0 : ((xs.length : Int) == 0) = false := beq_eq_false_iff_ne.2 (by omega)
  have hp : 0 < xs.length := by omega
  have hc1 : 0 < c := by have := h.1; omega
  obtain ⟨b, off, hA, hb, hc⟩ := h.2.2 hp
  have hx0 := hc 0 hp
  rw [Nat.add_zero] at hx0
  have H := Lib.hid h
  generalize xs[0]?.getD 0 = d at *
  have hd2 : (((d : Nat) : Int) % 2 == 1) = true := by rw [← ho, Bool.eq_iff_iff]; simp; omega
  have hd : (((d : Nat) : Int).tmod 2 == 1) = true := by rw [Int.tmod_eq_emod_of_nonneg (by omega)]; exact hd2
  have HB := Lib.hid hb
  have HX := Lib.hid hx0
  clear hc hx0 hb
  subst hA
  have d1 : decide (-131072 ≤ x) = true := decide_eq_true (by omega)
  have d2 : decide (x ≤ 131072) = false := decide_eq_false (by omega)
  have L0 := Lib.hid ((live_start w).add h)
  clear h hl hr ho h0 hx
  go_enter Tryd.func22, Tryd.ntmps22
  go_wp2_with fail
  obtain ⟨v1, hW, hb, Rx_1⟩ := new1 w (.cells #[.bool s, .slice (some ⟨b, off, none⟩) xs.length c, .int .i64 x] 26)
  rw [← hW]
  have L1 := ls L0 hb
  have Gx := gl0 L0.out
  clear hW hb
  refine (rright_any (some ⟨b, off, none⟩) c s xs _ (L1.out.get (A := (some ⟨b, off, none⟩)) (c := c) (xs := xs) (by simp)) _ HR.out HL.out).mono ?_
  rintro e w2 ⟨rfl, hb⟩
  have L2 := ls L1 hb
  have Rx_2 := co Rx_1 hb
  clear hb 
  have hx := (L2.out.1.cell (p := ⟨b, off, none⟩) HB.out).trans HX.out
  obtain ⟨fx0, zx0, fx1, zx1, fx2, zx2, xx⟩ := ly3 Rx_2.out
  go_wp2
  go_ret
  exact ⟨rfl, L2.out.1⟩

set_option maxHeartbeats 4000000 in
set_option maxRecDepth 100000 in
theorem r5right_y (A : Option Addr) (c : Nat) (s : Bool) (xs : List Nat) (x : Int) (w : World) (h : Dg w A c xs) (hl : xs.length ≤ 9223372036854775807) (h0 : xs.length ≠ 0) (hr : rightB s xs = true) (ho : decide (xs[0]?.getD 0 % 2 = 1) = true) (hx : -131072 ≤ x ∧ x ≤ 131072):
    Calls Tryd.prog 22 #[.agg #[.bool s, .slice A xs.length c, .int .i64 x]] w fun e w' => e = .returned (.bool true) ∧ Below w.heap.size w w' := by
  have HL := Lib.hid hl
  have HR := Lib.hid hr
  have t0 : ((xs.length : Int) == 0) = false := beq_eq_false_iff_ne.2 (by omega)
  have hp : 0 < xs.length := by omega
  have hc1 : 0 < c := by have := h.1; omega
  obtain ⟨b, off, hA, hb, hc⟩ := h.2.2 hp
  have hx0 := hc 0 hp
  rw [Nat.add_zero] at hx0
  have H := Lib.hid h
  generalize xs[0]?.getD 0 = d at *
  have hd2 : (((d : Nat) : Int) % 2 == 1) = true := by rw [← ho, Bool.eq_iff_iff]; simp; omega
  have hd : (((d : Nat) : Int).tmod 2 == 1) = true := by rw [Int.tmod_eq_emod_of_nonneg (by omega)]; exact hd2
  have HB := Lib.hid hb
  have HX := Lib.hid hx0
  clear hc hx0 hb
  subst hA
  have d1 : decide (-131072 ≤ x) = true := decide_eq_true hx.1
  have d2 : decide (x ≤ 131072) = true := decide_eq_true hx.2
  have L0 := Lib.hid ((live_start w).add h)
  clear h hl hr ho h0 hx
  go_enter Tryd.func22, Tryd.ntmps22
  go_wp2_with fail
  obtain ⟨v1, hW, hb, Rx_1⟩ := new1 w (.cells #[.bool s, .slice (some ⟨b, off, none⟩) xs.length c, .int .i64 x] 26)
  rw [← hW]
  have L1 := ls L0 hb
  have Gx := gl0 L0.out
  clear hW hb
  refine (rright_any (some ⟨b, off, none⟩) c s xs _ (L1.out.get (A := (some ⟨b, off, none⟩)) (c := c) (xs := xs) (by simp)) _ HR.out HL.out).mono ?_
  rintro e w2 ⟨rfl, hb⟩
  have L2 := ls L1 hb
  have Rx_2 := co Rx_1 hb
  clear hb 
  have hx := (L2.out.1.cell (p := ⟨b, off, none⟩) HB.out).trans HX.out
  obtain ⟨fx0, zx0, fx1, zx1, fx2, zx2, xx⟩ := ly3 Rx_2.out
  go_wp2
  go_ret
  exact ⟨rfl, L2.out.1⟩

theorem r5right_any {A : Option Addr} {c : Nat} {s : Bool} {xs : List Nat} {x : Int} {q : Bool} {w : World} (h : Dg w A c xs) (hl : xs.length ≤ 9223372036854775807) (hq : dyR s xs x = q) :
    Calls Tryd.prog 22 #[.agg #[.bool s, .slice A xs.length c, .int .i64 x]] w fun e w' => e = .returned (.bool q) ∧ Below w.heap.size w w' := by
  unfold dyR at hq
  by_cases h0 : xs.length = 0
  · rw [if_pos h0] at hq
    cases s
    · exact r5right_z0 A c false xs x w h hl h0 rfl (by rw [← hq]; simp)
    · obtain rfl : q = false := by rw [← hq]; rfl
      exact r5right_z1 A c true xs x w h hl h0 rfl
  · rw [if_neg h0] at hq
    obtain ⟨r, hr⟩ : ∃ r, rightB s xs = r := ⟨_, rfl⟩
    obtain ⟨o, ho⟩ : ∃ o, decide (xs[0]?.getD 0 % 2 = 1) = o := ⟨_, rfl⟩
    rw [hr, ho] at hq
    cases r
    · obtain rfl : q = false := by rw [← hq]; rfl
      exact r5right_w A c s xs x w h hl h0 hr
    · cases o
      · obtain rfl : q = false := by rw [← hq]; rfl
        exact r5right_e A c s xs x w h hl h0 hr ho
      · by_cases h1 : x < -131072
        · obtain rfl : q = false := by rw [← hq, decide_eq_false (show ¬ -131072 ≤ x by omega)]; rfl
          exact r5right_l A c s xs x w h hl h0 hr ho h1
        · by_cases h2 : 131072 < x
          · obtain rfl : q = false := by rw [← hq, decide_eq_false (show ¬ x ≤ 131072 by omega)]; simp
            exact r5right_g A c s xs x w h hl h0 hr ho h2
          · obtain rfl : q = true := by rw [← hq, decide_eq_true (show -131072 ≤ x by omega), decide_eq_true (show x ≤ 131072 by omega)]; rfl
            exact r5right_y A c s xs x w h hl h0 hr ho ⟨by omega, by omega⟩

set_option maxHeartbeats 4000000 in
set_option maxRecDepth 100000 in
theorem r5inr_0 (A : Option Addr) (c : Nat) (m x s : Int) (w : World) (h : Dg w A c (digs m.natAbs)) (hl : (digs m.natAbs).length ≤ 100000) (x0 : -10000000 ≤ x) (x1 : x ≤ 10000000) (m0 : m ≠ 0) (hs : x + bl m = s) (hc : s < -65536):
    Calls Tryd.prog 41 #[.agg #[.bool (decide (m < 0)), .slice A (digs m.natAbs).length c, .int .i64 x]] w fun e w' => e = .returned (.bool false) ∧ Below w.heap.size w w' := by
  have t0 : ((((digs m.natAbs).length : Nat) : Int) == 0) = false := beq_eq_false_iff_ne.2 (fun e => m0 (by have := digs_nil.1 (show (digs m.natAbs).length = 0 by omega); omega))
  obtain ⟨z, hz⟩ : ∃ z : Int, (blen m.natAbs : Int) = z := ⟨_, rfl⟩
  have HZ := Lib.hid hz
  have HS := Lib.hid hs
  have HL := Lib.hid hl
  have SC := Lib.hid (And.intro x0 x1)
  have d0 : decide (-65536 ≤ s) = false := decide_eq_false (by omega)
  have L0 := Lib.hid ((live_start w).add h)
  clear h hl hs hz m0 hc x0 x1
  go_enter Tryd.func41, Tryd.ntmps41
  go_wp2_with fail
  obtain ⟨v1, hW, hb, Rx_1⟩ := new1 w (.cells #[.bool (decide (m < 0)), .slice A (digs m.natAbs).length c, .int .i64 x] 26)
  rw [← hW]
  have L1 := ls L0 hb
  have Gx := gl0 L0.out
  clear hW hb
  obtain ⟨fx0, zx0, fx1, zx1, fx2, zx2, xx⟩ := ly3 Rx_1.out
  clear fx0 zx0 fx1 zx1 fx2 zx2 xx
  obtain ⟨fx0, zx0, fx1, zx1, fx2, zx2, xx⟩ := ly3 Rx_1.out
  go_wp2_with fail
  refine (r5size_any A c m x s _ (L1.out.get (A := A) (c := c) (xs := digs m.natAbs) (by simp)) HL.out SC.out.1 SC.out.2 HS.out).mono ?_
  rintro e w2 ⟨rfl, hb⟩
  have L2 := ls L1 hb
  clear fx0 zx0 fx1 zx1 fx2 zx2 xx
  have Rx_2 := co Rx_1 hb
  clear hb 
  obtain ⟨fx0, zx0, fx1, zx1, fx2, zx2, xx⟩ := ly3 Rx_2.out
  go_wp2
  go_ret
  exact ⟨rfl, L2.out.1⟩

set_option maxHeartbeats 4000000 in
set_option maxRecDepth 100000 in
theorem r5inr_1 (A : Option Addr) (c : Nat) (m x s : Int) (w : World) (h : Dg w A c (digs m.natAbs)) (hl : (digs m.natAbs).length ≤ 100000) (x0 : -10000000 ≤ x) (x1 : x ≤ 10000000) (m0 : m ≠ 0) (hs : x + bl m = s) (hc : -65536 ≤ s ∧ 65536 < s):
    Calls Tryd.prog 41 #[.agg #[.bool (decide (m < 0)), .slice A (digs m.natAbs).length c, .int .i64 x]] w fun e w' => e = .returned (.bool false) ∧ Below w.heap.size w w' := by
  have t0 : ((((digs m.natAbs).length : Nat) : Int) == 0) = false := beq_eq_false_iff_ne.2 (fun e => m0 (by have := digs_nil.1 (show (digs m.natAbs).length = 0 by omega); omega))
  obtain ⟨z, hz⟩ : ∃ z : Int, (blen m.natAbs : Int) = z := ⟨_, rfl⟩
  have HZ := Lib.hid hz
  have HS := Lib.hid hs
  have HL := Lib.hid hl
  have SC := Lib.hid (And.intro x0 x1)
  have d0 : decide (-65536 ≤ s) = true := decide_eq_true (by omega)
  have d1 : decide (s ≤ 65536) = false := decide_eq_false (by omega)
  have L0 := Lib.hid ((live_start w).add h)
  clear h hl hs hz m0 hc x0 x1
  go_enter Tryd.func41, Tryd.ntmps41
  go_wp2_with fail
  obtain ⟨v1, hW, hb, Rx_1⟩ := new1 w (.cells #[.bool (decide (m < 0)), .slice A (digs m.natAbs).length c, .int .i64 x] 26)
  rw [← hW]
  have L1 := ls L0 hb
  have Gx := gl0 L0.out
  clear hW hb
  obtain ⟨fx0, zx0, fx1, zx1, fx2, zx2, xx⟩ := ly3 Rx_1.out
  clear fx0 zx0 fx1 zx1 fx2 zx2 xx
  obtain ⟨fx0, zx0, fx1, zx1, fx2, zx2, xx⟩ := ly3 Rx_1.out
  go_wp2_with fail
  refine (r5size_any A c m x s _ (L1.out.get (A := A) (c := c) (xs := digs m.natAbs) (by simp)) HL.out SC.out.1 SC.out.2 HS.out).mono ?_
  rintro e w2 ⟨rfl, hb⟩
  have L2 := ls L1 hb
  clear fx0 zx0 fx1 zx1 fx2 zx2 xx
  have Rx_2 := co Rx_1 hb
  clear hb 
  obtain ⟨fx0, zx0, fx1, zx1, fx2, zx2, xx⟩ := ly3 Rx_2.out
  go_wp2
  go_ret
  exact ⟨rfl, L2.out.1⟩

set_option maxHeartbeats 4000000 in
set_option maxRecDepth 100000 in
theorem r5inr_2 (A : Option Addr) (c : Nat) (m x s : Int) (w : World) (h : Dg w A c (digs m.natAbs)) (hl : (digs m.natAbs).length ≤ 100000) (x0 : -10000000 ≤ x) (x1 : x ≤ 10000000) (m0 : m ≠ 0) (hs : x + bl m = s) (hc : (-65536 ≤ s ∧ s ≤ 65536) ∧ x < -131072):
    Calls Tryd.prog 41 #[.agg #[.bool (decide (m < 0)), .slice A (digs m.natAbs).length c, .int .i64 x]] w fun e w' => e = .returned (.bool false) ∧ Below w.heap.size w w' := by
  have t0 : ((((digs m.natAbs).length : Nat) : Int) == 0) = false := beq_eq_false_iff_ne.2 (fun e => m0 (by have := digs_nil.1 (show (digs m.natAbs).length = 0 by omega); omega))
  obtain ⟨z, hz⟩ : ∃ z : Int, (blen m.natAbs : Int) = z := ⟨_, rfl⟩
  have HZ := Lib.hid hz
  have HS := Lib.hid hs
  have HL := Lib.hid hl
  have SC := Lib.hid (And.intro x0 x1)
  have d0 : decide (-65536 ≤ s) = true := decide_eq_true (by omega)
  have d1 : decide (s ≤ 65536) = true := decide_eq_true (by omega)
  have d2 : decide (-131072 ≤ x) = false := decide_eq_false (by omega)
  have L0 := Lib.hid ((live_start w).add h)
  clear h hl hs hz m0 hc x0 x1
  go_enter Tryd.func41, Tryd.ntmps41
  go_wp2_with fail
  obtain ⟨v1, hW, hb, Rx_1⟩ := new1 w (.cells #[.bool (decide (m < 0)), .slice A (digs m.natAbs).length c, .int .i64 x] 26)
  rw [← hW]
  have L1 := ls L0 hb
  have Gx := gl0 L0.out
  clear hW hb
  obtain ⟨fx0, zx0, fx1, zx1, fx2, zx2, xx⟩ := ly3 Rx_1.out
  clear fx0 zx0 fx1 zx1 fx2 zx2 xx
  obtain ⟨fx0, zx0, fx1, zx1, fx2, zx2, xx⟩ := ly3 Rx_1.out
  go_wp2_with fail
  refine (r5size_any A c m x s _ (L1.out.get (A := A) (c := c) (xs := digs m.natAbs) (by simp)) HL.out SC.out.1 SC.out.2 HS.out).mono ?_
  rintro e w2 ⟨rfl, hb⟩
  have L2 := ls L1 hb
  clear fx0 zx0 fx1 zx1 fx2 zx2 xx
  have Rx_2 := co Rx_1 hb
  clear hb 
  obtain ⟨fx0, zx0, fx1, zx1, fx2, zx2, xx⟩ := ly3 Rx_2.out
  go_wp2
  go_ret
  exact ⟨rfl, L2.out.1⟩

set_option maxHeartbeats 4000000 in
set_option maxRecDepth 100000 in
theorem r5inr_3 (A : Option Addr) (c : Nat) (m x s : Int) (w : World) (h : Dg w A c (digs m.natAbs)) (hl : (digs m.natAbs).length ≤ 100000) (x0 : -10000000 ≤ x) (x1 : x ≤ 10000000) (m0 : m ≠ 0) (hs : x + bl m = s) (hc : (-65536 ≤ s ∧ s ≤ 65536) ∧ -131072 ≤ x ∧ 131072 < x):
    Calls Tryd.prog 41 #[.agg #[.bool (decide (m < 0)), .slice A (digs m.natAbs).length c, .int .i64 x]] w fun e w' => e = .returned (.bool false) ∧ Below w.heap.size w w' := by
  have t0 : ((((digs m.natAbs).length : Nat) : Int) == 0) = false := beq_eq_false_iff_ne.2 (fun e => m0 (by have := digs_nil.1 (show (digs m.natAbs).length = 0 by omega); omega))
  obtain ⟨z, hz⟩ : ∃ z : Int, (blen m.natAbs : Int) = z := ⟨_, rfl⟩
  have HZ := Lib.hid hz
  have HS := Lib.hid hs
  have HL := Lib.hid hl
  have SC := Lib.hid (And.intro x0 x1)
  have d0 : decide (-65536 ≤ s) = true := decide_eq_true (by omega)
  have d1 : decide (s ≤ 65536) = true := decide_eq_true (by omega)
  have d2 : decide (-131072 ≤ x) = true := decide_eq_true (by omega)
  have d3 : decide (x ≤ 131072) = false := decide_eq_false (by omega)
  have L0 := Lib.hid ((live_start w).add h)
  clear h hl hs hz m0 hc x0 x1
  go_enter Tryd.func41, Tryd.ntmps41
  go_wp2_with fail
  obtain ⟨v1, hW, hb, Rx_1⟩ := new1 w (.cells #[.bool (decide (m < 0)), .slice A (digs m.natAbs).length c, .int .i64 x] 26)
  rw [← hW]
  have L1 := ls L0 hb
  have Gx := gl0 L0.out
  clear hW hb
  obtain ⟨fx0, zx0, fx1, zx1, fx2, zx2, xx⟩ := ly3 Rx_1.out
  clear fx0 zx0 fx1 zx1 fx2 zx2 xx
  obtain ⟨fx0, zx0, fx1, zx1, fx2, zx2, xx⟩ := ly3 Rx_1.out
  go_wp2_with fail
  refine (r5size_any A c m x s _ (L1.out.get (A := A) (c := c) (xs := digs m.natAbs) (by simp)) HL.out SC.out.1 SC.out.2 HS.out).mono ?_
  rintro e w2 ⟨rfl, hb⟩
  have L2 := ls L1 hb
  clear fx0 zx0 fx1 zx1 fx2 zx2 xx
  have Rx_2 := co Rx_1 hb
  clear hb 
  obtain ⟨fx0, zx0, fx1, zx1, fx2, zx2, xx⟩ := ly3 Rx_2.out
  go_wp2
  go_ret
  exact ⟨rfl, L2.out.1⟩

set_option maxHeartbeats 4000000 in
set_option maxRecDepth 100000 in
theorem r5inr_4 (A : Option Addr) (c : Nat) (m x s : Int) (w : World) (h : Dg w A c (digs m.natAbs)) (hl : (digs m.natAbs).length ≤ 100000) (x0 : -10000000 ≤ x) (x1 : x ≤ 10000000) (m0 : m ≠ 0) (hs : x + bl m = s) (hc : ((-65536 ≤ s ∧ s ≤ 65536) ∧ -131072 ≤ x ∧ x ≤ 131072) ∧ 262144 < bl m):
    Calls Tryd.prog 41 #[.agg #[.bool (decide (m < 0)), .slice A (digs m.natAbs).length c, .int .i64 x]] w fun e w' => e = .returned (.bool false) ∧ Below w.heap.size w w' := by
  have t0 : ((((digs m.natAbs).length : Nat) : Int) == 0) = false := beq_eq_false_iff_ne.2 (fun e => m0 (by have := digs_nil.1 (show (digs m.natAbs).length = 0 by omega); omega))
  obtain ⟨z, hz⟩ : ∃ z : Int, (blen m.natAbs : Int) = z := ⟨_, rfl⟩
  have HZ := Lib.hid hz
  have HS := Lib.hid hs
  have HL := Lib.hid hl
  have SC := Lib.hid (And.intro x0 x1)
  have hzb : 262144 < z := by have := hc.2; unfold bl at this; omega
  have d0 : decide (-65536 ≤ s) = true := decide_eq_true (by omega)
  have d1 : decide (s ≤ 65536) = true := decide_eq_true (by omega)
  have d2 : decide (-131072 ≤ x) = true := decide_eq_true (by omega)
  have d3 : decide (x ≤ 131072) = true := decide_eq_true (by omega)
  have d4 : decide (z ≤ 262144) = false := decide_eq_false (by omega)
  have L0 := Lib.hid ((live_start w).add h)
  clear h hl hs hz m0 hc x0 x1 hzb
  go_enter Tryd.func41, Tryd.ntmps41
  go_wp2_with fail
  obtain ⟨v1, hW, hb, Rx_1⟩ := new1 w (.cells #[.bool (decide (m < 0)), .slice A (digs m.natAbs).length c, .int .i64 x] 26)
  rw [← hW]
  have L1 := ls L0 hb
  have Gx := gl0 L0.out
  clear hW hb
  obtain ⟨fx0, zx0, fx1, zx1, fx2, zx2, xx⟩ := ly3 Rx_1.out
  clear fx0 zx0 fx1 zx1 fx2 zx2 xx
  obtain ⟨fx0, zx0, fx1, zx1, fx2, zx2, xx⟩ := ly3 Rx_1.out
  go_wp2_with fail
  refine (r5size_any A c m x s _ (L1.out.get (A := A) (c := c) (xs := digs m.natAbs) (by simp)) HL.out SC.out.1 SC.out.2 HS.out).mono ?_
  rintro e w2 ⟨rfl, hb⟩
  have L2 := ls L1 hb
  clear fx0 zx0 fx1 zx1 fx2 zx2 xx
  have Rx_2 := co Rx_1 hb
  clear hb 
  obtain ⟨fx0, zx0, fx1, zx1, fx2, zx2, xx⟩ := ly3 Rx_2.out
  go_wp2_with fail
  refine (rbits_z (L2.out.get (A := A) (c := c) (xs := digs m.natAbs) (by simp)) (Nat.le_trans HL.out (by omega)) HZ.out).mono ?_
  rintro e w3 ⟨rfl, hb⟩
  have L3 := ls L2 hb
  clear fx0 zx0 fx1 zx1 fx2 zx2 xx
  have Rx_3 := co Rx_2 hb
  clear hb 
  obtain ⟨fx0, zx0, fx1, zx1, fx2, zx2, xx⟩ := ly3 Rx_3.out
  go_wp2
  go_ret
  exact ⟨rfl, L3.out.1⟩

theorem r5inr_any {A : Option Addr} {c : Nat} {m x : Int} {q : Bool} {w : World} (h : Dg w A c (digs m.natAbs)) (hl : (digs m.natAbs).length ≤ 100000) (x0 : -10000000 ≤ x) (x1 : x ≤ 10000000) (hq : inR m x = q) :
    Calls Tryd.prog 41 #[.agg #[.bool (decide (m < 0)), .slice A (digs m.natAbs).length c, .int .i64 x]] w fun e w' => e = .returned (.bool q) ∧ Below w.heap.size w w' := by
  cases q
  · unfold inR at hq
    rw [decide_eq_false_iff_not] at hq
    have m0 : m ≠ 0 := fun e => hq (.inl e)
    have hq2 : ¬ (-131072 ≤ x ∧ x ≤ 131072 ∧ bl m ≤ 262144 ∧ -65536 ≤ x + bl m ∧ x + bl m ≤ 65536) := fun e => hq (.inr e)
    obtain ⟨s, hs⟩ : ∃ s : Int, x + bl m = s := ⟨_, rfl⟩
    rw [hs] at hq2
    by_cases h1 : s < -65536
    · exact r5inr_0 A c m x s w h hl x0 x1 m0 hs h1
    · by_cases h2 : 65536 < s
      · exact r5inr_1 A c m x s w h hl x0 x1 m0 hs ⟨by omega, h2⟩
      · by_cases h3 : x < -131072
        · exact r5inr_2 A c m x s w h hl x0 x1 m0 hs ⟨⟨by omega, by omega⟩, h3⟩
        · by_cases h4 : 131072 < x
          · exact r5inr_3 A c m x s w h hl x0 x1 m0 hs ⟨⟨by omega, by omega⟩, by omega, h4⟩
          · exact r5inr_4 A c m x s w h hl x0 x1 m0 hs ⟨⟨⟨by omega, by omega⟩, by omega, by omega⟩, by omega⟩
  · exact r5inr_t h (inr_len hq) hq

set_option maxHeartbeats 4000000 in
set_option maxRecDepth 100000 in
theorem r5told_y (A : Option Addr) (c : Nat) (m x : Int) (w : World) (h : Dg w A c (digs m.natAbs)) (hl : (digs m.natAbs).length ≤ 100000) (x0 : -10000000 ≤ x) (x1 : x ≤ 10000000) (hq : inR m x = true):
    Calls Tryd.prog 62 #[.agg #[.bool (decide (m < 0)), .slice A (digs m.natAbs).length c, .int .i64 x]] w fun e w' => Ye m x 0 w e w' := by
  have HL := Lib.hid hl
  have HQ := Lib.hid hq
  have SC := Lib.hid (And.intro x0 x1)
  have L0 := Lib.hid ((live_start w).add h)
  clear h hl hq x0 x1
  go_enter Tryd.func62, Tryd.ntmps62
  go_wp2_with fail
  obtain ⟨v1, hW, hb, Rx_1, Rr_1⟩ := new2 w (.cells #[.bool (decide (m < 0)), .slice A (digs m.natAbs).length c, .int .i64 x] 26) (.cells #[.bool false, .slice none 0 0, .int .i64 0] 26)
  rw [← hW]
  have L1 := ls L0 hb
  have Gx := gl0 L0.out
  have Gr := gl1 L0.out
  have Nxr : w.heap.size < w.heap.size + 1 := by omega
  clear hW hb
  refine (r5inr_any (L1.out.get (A := A) (c := c) (xs := digs m.natAbs) (by simp)) HL.out SC.out.1 SC.out.2 HQ.out).mono ?_
  rintro e w2 ⟨rfl, hb⟩
  have L2 := ls L1 hb
  have Rx_2 := co Rx_1 hb
  have Rr_2 := co Rr_1 hb
  clear hb 
  obtain ⟨fx0, zx0, fx1, zx1, fx2, zx2, xx⟩ := ly3 Rx_2.out
  obtain ⟨fr0, zr0, fr1, zr1, fr2, zr2, xr⟩ := ly3 Rr_2.out
  go_wp2
  refine bodyPost_ret (v := .tuple #[.agg #[.bool (decide (m < 0)), .slice A (digs m.natAbs).length c, .int .i64 x], .int .i64 0]) (by simp [results, Tryd.results62, go_sem, fx0, fx1, fx2, fr0, fr1, fr2]) rfl ?_
  
  refine ⟨A, c, rfl, ?_, ?_⟩
  · exact (fin3 L2.out Rr_2.out noint3 Gr).get (A := A) (c := c) (xs := digs m.natAbs) (by simp)
  · exact (fin3 L2.out Rr_2.out noint3 Gr).1

set_option maxHeartbeats 4000000 in
set_option maxRecDepth 100000 in
theorem r5told_n (A : Option Addr) (c : Nat) (m x : Int) (w : World) (h : Dg w A c (digs m.natAbs)) (hl : (digs m.natAbs).length ≤ 100000) (x0 : -10000000 ≤ x) (x1 : x ≤ 10000000) (hq : inR m x = false):
    Calls Tryd.prog 62 #[.agg #[.bool (decide (m < 0)), .slice A (digs m.natAbs).length c, .int .i64 x]] w fun e w' => e = .returned (.tuple #[.agg #[.bool false, .slice none 0 0, .int .i64 0], .int .i64 4]) ∧ Below w.heap.size w w' := by
  have HL := Lib.hid hl
  have HQ := Lib.hid hq
  have SC := Lib.hid (And.intro x0 x1)
  have L0 := Lib.hid ((live_start w).add h)
  clear h hl hq x0 x1
  go_enter Tryd.func62, Tryd.ntmps62
  go_wp2_with fail
  obtain ⟨v1, hW, hb, Rx_1, Rr_1⟩ := new2 w (.cells #[.bool (decide (m < 0)), .slice A (digs m.natAbs).length c, .int .i64 x] 26) (.cells #[.bool false, .slice none 0 0, .int .i64 0] 26)
  rw [← hW]
  have L1 := ls L0 hb
  have Gx := gl0 L0.out
  have Gr := gl1 L0.out
  have Nxr : w.heap.size < w.heap.size + 1 := by omega
  clear hW hb
  refine (r5inr_any (L1.out.get (A := A) (c := c) (xs := digs m.natAbs) (by simp)) HL.out SC.out.1 SC.out.2 HQ.out).mono ?_
  rintro e w2 ⟨rfl, hb⟩
  have L2 := ls L1 hb
  have Rx_2 := co Rx_1 hb
  have Rr_2 := co Rr_1 hb
  clear hb 
  obtain ⟨fx0, zx0, fx1, zx1, fx2, zx2, xx⟩ := ly3 Rx_2.out
  obtain ⟨fr0, zr0, fr1, zr1, fr2, zr2, xr⟩ := ly3 Rr_2.out
  go_wp2
  refine bodyPost_ret (v := .tuple #[.agg #[.bool false, .slice none 0 0, .int .i64 0], .int .i64 4]) (by simp [results, Tryd.results62, go_sem, fx0, fx1, fx2, fr0, fr1, fr2]) rfl ?_
  exact ⟨rfl, (fin3 L2.out Rr_2.out noint3 Gr).1⟩

theorem r5told {A : Option Addr} {c : Nat} {M E K F V : Int} {w : World} (h : Dg w A c (digs M.natAbs)) (hl : (digs M.natAbs).length ≤ 100000) (x0 : -10000000 ≤ E) (x1 : E ≤ 10000000) (hq : tot M E = (K, F, V)) :
    Calls Tryd.prog 62 #[.agg #[.bool (decide (M < 0)), .slice A (digs M.natAbs).length c, .int .i64 E]] w fun e w' => Ye K F V w e w' := by
  unfold tot at hq
  by_cases hi : inR M E = true
  · rw [if_pos hi] at hq
    obtain ⟨rfl, rfl, rfl⟩ : M = K ∧ E = F ∧ 0 = V := by simpa using hq
    exact r5told_y A c M E w h hl x0 x1 hi
  · rw [if_neg hi] at hq
    obtain ⟨rfl, rfl, rfl⟩ : 0 = K ∧ 0 = F ∧ 4 = V := by simpa using hq
    refine (r5told_n A c M E w h hl x0 x1 (by simpa using hi)).mono ?_
    rintro e w' ⟨rfl, hb⟩
    exact zero_ye hb

set_option maxHeartbeats 4000000 in
set_option maxRecDepth 100000 in
theorem r5lift_z1 (A B : Option Addr) (c d : Nat) (m n x y : Int) (w : World) (h : Dg w A c (digs m.natAbs)) (h' : Dg w B d (digs n.natAbs)) (m0 : m = 0):
    Calls Tryd.prog 53 #[.agg #[.bool (decide (m < 0)), .slice A (digs m.natAbs).length c, .int .i64 x], .agg #[.bool (decide (n < 0)), .slice B (digs n.natAbs).length d, .int .i64 y]] w fun e w' => ∃ C k, e = .returned (.tuple #[.agg #[.bool false, .slice none 0 0], .agg #[.bool (decide (n < 0)), .slice C (digs n.natAbs).length k], .int .i64 y]) ∧ Dg w' C k (digs n.natAbs) ∧ Below w.heap.size w w' := by
  have t1 : ((((digs m.natAbs).length : Nat) : Int) == 0) = true := by rw [m0, show digs (0 : Int).natAbs = [] from digs_zero]; rfl
  have L0 := Lib.hid (((live_start w).add h).add h')
  clear h h' m0
  go_enter Tryd.func53, Tryd.ntmps53
  go_wp2_with fail
  obtain ⟨v1, hW, hb, Rx_1, Ry_1, Ra_1, Rb_1⟩ := new4 w (.cells #[.bool (decide (m < 0)), .slice A (digs m.natAbs).length c, .int .i64 x] 26) (.cells #[.bool (decide (n < 0)), .slice B (digs n.natAbs).length d, .int .i64 y] 26) (.cells #[.bool false, .slice none 0 0] 24) (.cells #[.bool false, .slice none 0 0] 24)
  rw [← hW]
  have L1 := ls L0 hb
  have Gx := gl0 L0.out
  have Gy := gl1 L0.out
  have Nxy : w.heap.size < w.heap.size + 1 := by omega
  have Ga := gl2 L0.out
  have Nxa : w.heap.size < w.heap.size + 1 + 1 := by omega
  have Nya : w.heap.size + 1 < w.heap.size + 1 + 1 := by omega
  have Gb := gl3 L0.out
  have Nxb : w.heap.size < w.heap.size + 1 + 1 + 1 := by omega
  have Nyb : w.heap.size + 1 < w.heap.size + 1 + 1 + 1 := by omega
  have Nab : w.heap.size + 1 + 1 < w.heap.size + 1 + 1 + 1 := by omega
  clear hW hb
  obtain ⟨fx0, zx0, fx1, zx1, fx2, zx2, xx⟩ := ly3 Rx_1.out
  obtain ⟨fy0, zy0, fy1, zy1, fy2, zy2, xy⟩ := ly3 Ry_1.out
  obtain ⟨fa0, za0, fa1, za1, xa⟩ := ly2 Ra_1.out
  obtain ⟨fb0, zb0, fb1, zb1, xb⟩ := ly2 Rb_1.out
  go_upto_region 2 with fail
  clear fx0 zx0 fx1 zx1 fx2 zx2 xx fy0 zy0 fy1 zy1 fy2 zy2 xy fa0 za0 fa1 za1 xa fb0 zb0 fb1 zb1 xb
  obtain ⟨fx0, zx0, fx1, zx1, fx2, zx2, xx⟩ := ly3 Rx_1.out
  obtain ⟨fy0, zy0, fy1, zy1, fy2, zy2, xy⟩ := ly3 Ry_1.out
  obtain ⟨fa0, za0, fa1, za1, xa⟩ := ly2 Ra_1.out
  obtain ⟨fb0, zb0, fb1, zb1, xb⟩ := ly2 Rb_1.out
  go_region
  clear fx0 zx0 fx1 zx1 fx2 zx2 xx fy0 zy0 fy1 zy1 fy2 zy2 xy fa0 za0 fa1 za1 xa fb0 zb0 fb1 zb1 xb
  obtain ⟨w2, hW⟩ : ∃ W : World, W = ((v1.setCell ⟨w.heap.size + 1 + 1, 0, none⟩ (.bool false)).setCell ⟨w.heap.size + 1 + 1, 1, none⟩ (.slice none 0 0)) := ⟨_, rfl⟩
  rw [← hW]
  have hO : Only (w.heap.size + 1 + 1) v1 w2 := by rw [hW]; exact (((Only.refl (w.heap.size + 1 + 1) v1).setCell 0 _).setCell 1 _)
  have L2 := Lib.hid (live_only L1.out hO Ra_1.out noint_int Ga)
  have Rx_2 := Lib.hid ((hO.block _ (by omega)).trans Rx_1.out)
  have Ry_2 := Lib.hid ((hO.block _ (by omega)).trans Ry_1.out)
  have Rb_2 := Lib.hid ((hO.block _ (by omega)).trans Rb_1.out)
  have Ra_2 := Lib.hid (show w2.heap[w.heap.size + 1 + 1]? = some (.cells #[.bool false, .slice none 0 0] 24 (0, 0)) by rw [hW]; exact (heap_setCell_same _ _ 1 _ _ _ (heap_setCell_same _ _ 0 _ _ _ Ra_1.out)))
  clear hW hO
  obtain ⟨w3, hW⟩ : ∃ W : World, W = ((w2.setCell ⟨w.heap.size + 1 + 1 + 1, 0, none⟩ (.bool (decide (n < 0)))).setCell ⟨w.heap.size + 1 + 1 + 1, 1, none⟩ (.slice B (digs n.natAbs).length d)) := ⟨_, rfl⟩
  rw [← hW]
  have hO : Only (w.heap.size + 1 + 1 + 1) w2 w3 := by rw [hW]; exact (((Only.refl (w.heap.size + 1 + 1 + 1) w2).setCell 0 _).setCell 1 _)
  have L3 := Lib.hid (live_only L2.out hO Rb_2.out noint_int Gb)
  have Rx_3 := Lib.hid ((hO.block _ (by omega)).trans Rx_2.out)
  have Ry_3 := Lib.hid ((hO.block _ (by omega)).trans Ry_2.out)
  have Ra_3 := Lib.hid ((hO.block _ (by omega)).trans Ra_2.out)
  have Rb_3 := Lib.hid (show w3.heap[w.heap.size + 1 + 1 + 1]? = some (.cells #[.bool (decide (n < 0)), .slice B (digs n.natAbs).length d] 24 (0, 0)) by rw [hW]; exact (heap_setCell_same _ _ 1 _ _ _ (heap_setCell_same _ _ 0 _ _ _ Rb_2.out)))
  clear hW hO
  obtain ⟨w4, hW⟩ : ∃ W : World, W = w3.drew := ⟨_, rfl⟩
  rw [← hW]
  have hb : Below w3.heap.size w3 w4 := by rw [hW]; exact bd0 _
  have L4 := ls L3 hb
  have Rx_4 := co Rx_3 hb
  have Ry_4 := co Ry_3 hb
  have Ra_4 := co Ra_3 hb
  have Rb_4 := co Rb_3 hb
  clear hW hb
  obtain ⟨fa0, za0, fa1, za1, xa⟩ := ly2 Ra_4.out
  obtain ⟨fb0, zb0, fb1, zb1, xb⟩ := ly2 Rb_4.out
  go_wp2
  refine bodyPost_ret (v := .tuple #[.agg #[.bool false, .slice none 0 0], .agg #[.bool (decide (n < 0)), .slice B (digs n.natAbs).length d], .int .i64 y]) (by simp [results, Tryd.results53, go_sem, fa0, fa1, fb0, fb1]) rfl ?_
  exact ⟨B, d, rfl, L4.out.get (A := B) (c := d) (xs := digs n.natAbs) (by simp), L4.out.1⟩

set_option maxHeartbeats 4000000 in
set_option maxRecDepth 100000 in
theorem r5lift_z2 (A B : Option Addr) (c d : Nat) (m n x y : Int) (w : World) (h : Dg w A c (digs m.natAbs)) (h' : Dg w B d (digs n.natAbs)) (m0 : m ≠ 0) (n0 : n = 0):
    Calls Tryd.prog 53 #[.agg #[.bool (decide (m < 0)), .slice A (digs m.natAbs).length c, .int .i64 x], .agg #[.bool (decide (n < 0)), .slice B (digs n.natAbs).length d, .int .i64 y]] w fun e w' => ∃ C k, e = .returned (.tuple #[.agg #[.bool (decide (m < 0)), .slice C (digs m.natAbs).length k], .agg #[.bool false, .slice none 0 0], .int .i64 x]) ∧ Dg w' C k (digs m.natAbs) ∧ Below w.heap.size w w' := by
  have t1 : ((((digs m.natAbs).length : Nat) : Int) == 0) = false := beq_eq_false_iff_ne.2 (fun e => m0 (by have := digs_nil.1 (show (digs m.natAbs).length = 0 by omega); omega))
  have t2 : ((((digs n.natAbs).length : Nat) : Int) == 0) = true := by rw [n0, show digs (0 : Int).natAbs = [] from digs_zero]; rfl
  have L0 := Lib.hid (((live_start w).add h).add h')
  clear h h' m0 n0
  go_enter Tryd.func53, Tryd.ntmps53
  go_wp2_with fail
  obtain ⟨v1, hW, hb, Rx_1, Ry_1, Ra_1, Rb_1⟩ := new4 w (.cells #[.bool (decide (m < 0)), .slice A (digs m.natAbs).length c, .int .i64 x] 26) (.cells #[.bool (decide (n < 0)), .slice B (digs n.natAbs).length d, .int .i64 y] 26) (.cells #[.bool false, .slice none 0 0] 24) (.cells #[.bool false, .slice none 0 0] 24)
  rw [← hW]
  have L1 := ls L0 hb
  have Gx := gl0 L0.out
  have Gy := gl1 L0.out
  have Nxy : w.heap.size < w.heap.size + 1 := by omega
  have Ga := gl2 L0.out
  have Nxa : w.heap.size < w.heap.size + 1 + 1 := by omega
  have Nya : w.heap.size + 1 < w.heap.size + 1 + 1 := by omega
  have Gb := gl3 L0.out
  have Nxb : w.heap.size < w.heap.size + 1 + 1 + 1 := by omega
  have Nyb : w.heap.size + 1 < w.heap.size + 1 + 1 + 1 := by omega
  have Nab : w.heap.size + 1 + 1 < w.heap.size + 1 + 1 + 1 := by omega
  clear hW hb
  obtain ⟨fx0, zx0, fx1, zx1, fx2, zx2, xx⟩ := ly3 Rx_1.out
  obtain ⟨fy0, zy0, fy1, zy1, fy2, zy2, xy⟩ := ly3 Ry_1.out
  obtain ⟨fa0, za0, fa1, za1, xa⟩ := ly2 Ra_1.out
  obtain ⟨fb0, zb0, fb1, zb1, xb⟩ := ly2 Rb_1.out
  go_upto_region 4 with fail
  clear fx0 zx0 fx1 zx1 fx2 zx2 xx fy0 zy0 fy1 zy1 fy2 zy2 xy fa0 za0 fa1 za1 xa fb0 zb0 fb1 zb1 xb
  obtain ⟨fx0, zx0, fx1, zx1, fx2, zx2, xx⟩ := ly3 Rx_1.out
  obtain ⟨fy0, zy0, fy1, zy1, fy2, zy2, xy⟩ := ly3 Ry_1.out
  obtain ⟨fa0, za0, fa1, za1, xa⟩ := ly2 Ra_1.out
  obtain ⟨fb0, zb0, fb1, zb1, xb⟩ := ly2 Rb_1.out
  go_region
  clear fx0 zx0 fx1 zx1 fx2 zx2 xx fy0 zy0 fy1 zy1 fy2 zy2 xy fa0 za0 fa1 za1 xa fb0 zb0 fb1 zb1 xb
  obtain ⟨w2, hW⟩ : ∃ W : World, W = ((v1.setCell ⟨w.heap.size + 1 + 1, 0, none⟩ (.bool (decide (m < 0)))).setCell ⟨w.heap.size + 1 + 1, 1, none⟩ (.slice A (digs m.natAbs).length c)) := ⟨_, rfl⟩
  rw [← hW]
  have hO : Only (w.heap.size + 1 + 1) v1 w2 := by rw [hW]; exact (((Only.refl (w.heap.size + 1 + 1) v1).setCell 0 _).setCell 1 _)
  have L2 := Lib.hid (live_only L1.out hO Ra_1.out noint_int Ga)
  have Rx_2 := Lib.hid ((hO.block _ (by omega)).trans Rx_1.out)
  have Ry_2 := Lib.hid ((hO.block _ (by omega)).trans Ry_1.out)
  have Rb_2 := Lib.hid ((hO.block _ (by omega)).trans Rb_1.out)
  have Ra_2 := Lib.hid (show w2.heap[w.heap.size + 1 + 1]? = some (.cells #[.bool (decide (m < 0)), .slice A (digs m.natAbs).length c] 24 (0, 0)) by rw [hW]; exact (heap_setCell_same _ _ 1 _ _ _ (heap_setCell_same _ _ 0 _ _ _ Ra_1.out)))
  clear hW hO
  obtain ⟨w3, hW⟩ : ∃ W : World, W = ((w2.setCell ⟨w.heap.size + 1 + 1 + 1, 0, none⟩ (.bool false)).setCell ⟨w.heap.size + 1 + 1 + 1, 1, none⟩ (.slice none 0 0)) := ⟨_, rfl⟩
  rw [← hW]
  have hO : Only (w.heap.size + 1 + 1 + 1) w2 w3 := by rw [hW]; exact (((Only.refl (w.heap.size + 1 + 1 + 1) w2).setCell 0 _).setCell 1 _)
  have L3 := Lib.hid (live_only L2.out hO Rb_2.out noint_int Gb)
  have Rx_3 := Lib.hid ((hO.block _ (by omega)).trans Rx_2.out)
  have Ry_3 := Lib.hid ((hO.block _ (by omega)).trans Ry_2.out)
  have Ra_3 := Lib.hid ((hO.block _ (by omega)).trans Ra_2.out)
  have Rb_3 := Lib.hid (show w3.heap[w.heap.size + 1 + 1 + 1]? = some (.cells #[.bool false, .slice none 0 0] 24 (0, 0)) by rw [hW]; exact (heap_setCell_same _ _ 1 _ _ _ (heap_setCell_same _ _ 0 _ _ _ Rb_2.out)))
  clear hW hO
  obtain ⟨w4, hW⟩ : ∃ W : World, W = w3.drew := ⟨_, rfl⟩
  rw [← hW]
  have hb : Below w3.heap.size w3 w4 := by rw [hW]; exact bd0 _
  have L4 := ls L3 hb
  have Rx_4 := co Rx_3 hb
  have Ry_4 := co Ry_3 hb
  have Ra_4 := co Ra_3 hb
  have Rb_4 := co Rb_3 hb
  clear hW hb
  obtain ⟨fa0, za0, fa1, za1, xa⟩ := ly2 Ra_4.out
  obtain ⟨fb0, zb0, fb1, zb1, xb⟩ := ly2 Rb_4.out
  go_wp2
  refine bodyPost_ret (v := .tuple #[.agg #[.bool (decide (m < 0)), .slice A (digs m.natAbs).length c], .agg #[.bool false, .slice none 0 0], .int .i64 x]) (by simp [results, Tryd.results53, go_sem, fa0, fa1, fb0, fb1]) rfl ?_
  exact ⟨A, c, rfl, L4.out.get (A := A) (c := c) (xs := digs m.natAbs) (by simp), L4.out.1⟩
end Go.Proofs.YtaciohjobenipaaDoor
end

section
/-
  astrolaberef04's Add, Sub, Mul.
-/
namespace Go.Proofs.YtaciohjobenipaaDoor
open Go.RowKit
theorem zr_end {w w4 : World} {A4 : Option Addr} {c4 : Nat} {z : Int} (g : Nat) (hg : w.heap.size ≤ g) (hd : Dg w4 A4 c4 (digs z.natAbs)) (ho : Off g A4 (digs z.natAbs)) (hb : Below w.heap.size w w4) (v v' : Value) :
    Zr z w (.returned (.agg #[.bool (decide (z < 0)), .slice A4 (digs z.natAbs).length c4])) ((w4.setCell ⟨g, 0, none⟩ v).setCell ⟨g, 1, none⟩ v') :=
  ⟨A4, c4, rfl, (hd.set_off ho _ _).set_off ho _ _, (hb.setCell (by simpa using hg) _).setCell (by simpa using hg) _⟩
set_option maxHeartbeats 4000000 in
set_option maxRecDepth 100000 in
theorem rzadd_same (A B : Option Addr) (c d : Nat) (s : Bool) (xs ys : List Nat) (w : World) (h : Dg w A c xs) (h' : Dg w B d ys) (hl : xs.length ≤ 900000) (hl' : ys.length ≤ 900000) :
    Calls Tryd.prog 63 #[.agg #[.bool s, .slice A xs.length c], .agg #[.bool s, .slice B ys.length d]] w fun e w' => Zr (sg s (val xs + val ys)) w e w' := by
  have l1 := digs_len_le h.2.1
  have l2 := digs_len_le h'.2.1
  have l3 := digs_add_len (val xs) (val ys)
  have hss : (s == s) = true := by simp
  have TA := Lib.hid (fun W h h' => radd_any A B c d xs ys W h h' (by omega) (by omega))
  have TM := Lib.hid (fun A' c' W h => rmake_any A' c' s (digs (val xs + val ys)) W h (by omega))
  rw [val_digs] at TM
  generalize sg s (val xs + val ys) = z at *
  go_enter Tryd.func63, Tryd.ntmps63
  go_wp2
  go_region_held3 (fun w' => (∀ b o, b < w.heap.size + 2 → w'.cell? ⟨b, o, none⟩ = (((w.alloc (.cells #[.bool s, .slice A xs.length c] 24)).alloc (.cells #[.bool s, .slice B ys.length d] 24)).alloc (.cells #[.bool false, .slice none 0 0] 24)).cell? ⟨b, o, none⟩))
    (first | exact fun _ _ _ => rfl | with_reducible exact (bcellB (K1.out.mono (N2 _ _ _ _))).1 | with_reducible exact (bcellB (K2.out.mono (N2 _ _ _ _))).1 | exact (bcellB (((K2.out.mono (N2 _ _ _ _)).setCell (by simp) _).setCell (by simp) _)).1)
    (first
      | (go_at_call 96; ((with_reducible refine (TA.out _ (h.below (below_drew (below3 _ _ _ _))) (h'.below (below_drew (below3 _ _ _ _)))).mono ?_); rintro e w1 ⟨A1, c1, rfl, hd, hb⟩; (have K1 := Lib.hid (undrew hb)); (have G1 := Lib.hid hd); clear hb hd))
      | (go_at_call 82; ((with_reducible refine (TM.out _ _ _ G1.out).mono ?_); rintro e w2 ⟨A2, c2, rfl, hd, hb⟩; (have K2 := Lib.hid (K1.out.trans (hb.mono K1.out.size))); (obtain ⟨hc2, hf2⟩ := bcell K2.out); (have HO2 := Lib.hid (off_box (g := w.heap.size + 1 + 1) hd K2.out (by simp) noint2')); (have G2 := Lib.hid hd); clear hb hd)))
  go_wp2
  refine bodyPost_ret (v := .agg #[.bool (decide (z < 0)), .slice A2 (digs z.natAbs).length c2]) (by simp [results, Tryd.results63, go_sem, hc2]) rfl ?_
  exact zr_end _ (by omega) G2.out HO2.out ((below3 w _ _ _).trans (K2.out.mono (by simp; omega))) _ _
set_option maxHeartbeats 4000000 in
set_option maxRecDepth 100000 in
theorem rzadd_ge (A B : Option Addr) (c d : Nat) (s r : Bool) (xs ys : List Nat) (w : World) (h : Dg w A c xs) (h' : Dg w B d ys) (hl : xs.length ≤ 900000) (hl' : ys.length ≤ 900000) (hsr : (s == r) = false) (hle : val ys ≤ val xs) :
    Calls Tryd.prog 63 #[.agg #[.bool s, .slice A xs.length c], .agg #[.bool r, .slice B ys.length d]] w fun e w' => Zr (sg s (val xs - val ys)) w e w' := by
  have l1 := digs_len_le h.2.1
  have l3 := digs_sub_len (val xs) (val ys)
  have TA := Lib.hid (fun W h h' => rsub_yes A B c d xs ys W h h' (by omega) (by omega) hle)
  have TM := Lib.hid (fun A' c' W h => rmake_any A' c' s (digs (val xs - val ys)) W h (by omega))
  rw [val_digs] at TM
  generalize sg s (val xs - val ys) = z at *
  clear hle
  go_enter Tryd.func63, Tryd.ntmps63
  go_wp2_with fail
  refine (TA.out _ (h.below (below3 _ _ _ _)) (h'.below (below3 _ _ _ _))).mono ?_
  rintro e w1 ⟨A1, c1, rfl, hd, hb⟩
  have K1 := Lib.hid hb
  have G1 := Lib.hid hd
  obtain ⟨hc1, hf1⟩ := bcell hb
  clear hb hd
  go_wp2_with fail
  refine (TM.out _ _ _ G1.out).mono ?_
  rintro e w2 ⟨A2, c2, rfl, hd, hb⟩
  have K2 := Lib.hid (K1.out.trans (hb.mono K1.out.size))
  obtain ⟨hc2, hf2⟩ := bcell K2.out
  have HO2 := Lib.hid (off_box (g := w.heap.size + 1 + 1) hd K2.out (by simp) noint2')
  have G2 := Lib.hid hd
  clear hb hd
  go_wp2
  refine bodyPost_ret (v := .agg #[.bool (decide (z < 0)), .slice A2 (digs z.natAbs).length c2]) (by simp [results, Tryd.results63, go_sem, hc2]) rfl ?_
  exact zr_end _ (by omega) G2.out HO2.out ((below3 w _ _ _).trans (K2.out.mono (by simp; omega))) _ _
set_option maxHeartbeats 4000000 in
set_option maxRecDepth 100000 in
theorem rzadd_lt (A B : Option Addr) (c d : Nat) (s r : Bool) (xs ys : List Nat) (w : World) (h : Dg w A c xs) (h' : Dg w B d ys) (hl : xs.length ≤ 900000) (hl' : ys.length ≤ 900000) (hsr : (s == r) = false) (hlt : val xs < val ys) :
    Calls Tryd.prog 63 #[.agg #[.bool s, .slice A xs.length c], .agg #[.bool r, .slice B ys.length d]] w fun e w' => Zr (sg r (val ys - val xs)) w e w' := by
  have l1 := digs_len_le h'.2.1
  have l3 := digs_sub_len (val ys) (val xs)
  have TA := Lib.hid (fun W h h' => rsub_yes B A d c ys xs W h' h (by omega) (by omega) (Nat.le_of_lt hlt))
  have TN := Lib.hid (fun W h h' => rsub_no A B c d xs ys W h h' (by omega) (by omega) hlt)
  have TM := Lib.hid (fun A' c' W h => rmake_any A' c' r (digs (val ys - val xs)) W h (by omega))
  rw [val_digs] at TM
  generalize sg r (val ys - val xs) = z at *
  clear hlt
  go_enter Tryd.func63, Tryd.ntmps63
  go_wp2_with fail
  refine (TN.out _ (h.below (below3 _ _ _ _)) (h'.below (below3 _ _ _ _))).mono ?_
  rintro e w0 ⟨rfl, rfl⟩
  go_wp2_with fail
  refine (TA.out _ (h.below (below3 _ _ _ _)) (h'.below (below3 _ _ _ _))).mono ?_
  rintro e w1 ⟨A1, c1, rfl, hd, hb⟩
  have K1 := Lib.hid hb
  have G1 := Lib.hid hd
  obtain ⟨hc1, hf1⟩ := bcell hb
  clear hb hd
  go_wp2_with fail
  refine (TM.out _ _ _ G1.out).mono ?_
  rintro e w2 ⟨A2, c2, rfl, hd, hb⟩
  have K2 := Lib.hid (K1.out.trans (hb.mono K1.out.size))
  obtain ⟨hc2, hf2⟩ := bcell K2.out
  have HO2 := Lib.hid (off_box (g := w.heap.size + 1 + 1) hd K2.out (by simp) noint2')
  have G2 := Lib.hid hd
  clear hb hd
  go_wp2
  refine bodyPost_ret (v := .agg #[.bool (decide (z < 0)), .slice A2 (digs z.natAbs).length c2]) (by simp [results, Tryd.results63, go_sem, hc2]) rfl ?_
  exact zr_end _ (by omega) G2.out HO2.out ((below3 w _ _ _).trans (K2.out.mono (by simp; omega))) _ _
theorem rzadd_any (A B : Option Addr) (c d : Nat) (s r : Bool) (xs ys : List Nat) (w : World) (h : Dg w A c xs) (h' : Dg w B d ys) (hl : xs.length ≤ 900000) (hl' : ys.length ≤ 900000) :
    Calls Tryd.prog 63 #[.agg #[.bool s, .slice A xs.length c], .agg #[.bool r, .slice B ys.length d]] w fun e w' => Zr (sg s (val xs) + sg r (val ys)) w e w' := by
  cases hsr : (s == r)
  · rcases Nat.lt_or_ge (val xs) (val ys) with hlt | hge
    · rw [← sg_less hsr hlt]; exact rzadd_lt A B c d s r xs ys w h h' hl hl' hsr hlt
    · rw [← sg_more hsr hge]; exact rzadd_ge A B c d s r xs ys w h h' hl hl' hsr hge
  · have e : s = r := by simpa using hsr
    subst e
    rw [← sg_same]; exact rzadd_same A B c d s xs ys w h h' hl hl'
/-- An answer's digits and sign are the number's. -/
theorem sg_dec (z : Int) : sg (decide (z < 0)) (val (digs z.natAbs)) = z := by
  rw [val_digs]; unfold sg
  by_cases h : z < 0
  · rw [decide_eq_true h]; simp; omega
  · rw [decide_eq_false h]; simp; omega
theorem sg_mul (s r q : Bool) (x y : Nat) (hq : (s != r) = q) : sg q (x * y) = sg s x * sg r y := by
  subst hq; unfold sg; cases s <;> cases r <;> simp [Int.neg_mul, Int.mul_neg]
set_option maxHeartbeats 4000000 in
set_option maxRecDepth 100000 in
theorem rzmul_any (A B : Option Addr) (c d : Nat) (s r : Bool) (xs ys : List Nat) (w : World) (h : Dg w A c xs) (h' : Dg w B d ys) (hl : xs.length ≤ 400000) (hl' : ys.length ≤ 400000) :
    Calls Tryd.prog 65 #[.agg #[.bool s, .slice A xs.length c], .agg #[.bool r, .slice B ys.length d]] w fun e w' => Zr (sg s (val xs) * sg r (val ys)) w e w' := by
  have l1 := digs_len_le h.2.1
  have l2 := digs_len_le h'.2.1
  have l3 := digs_mul_len (val xs) (val ys)
  obtain ⟨q, hq⟩ : ∃ q, (s != r) = q := ⟨_, rfl⟩
  have hq' : (!s == r) = q := by rw [← hq]; cases s <;> cases r <;> rfl
  have TA := Lib.hid (fun W h h' => rmul_any A B c d xs ys W h h' (by omega) (by omega))
  have TM := Lib.hid (fun A' c' W h => rmake_any A' c' q (digs (val xs * val ys)) W h (by omega))
  rw [val_digs] at TM
  rw [← sg_mul s r q (val xs) (val ys) hq]
  generalize sg q (val xs * val ys) = z at *
  go_enter Tryd.func65, Tryd.ntmps65
  go_wp2
  go_region_held3 (fun w' => (∀ b o, b < w.heap.size + 2 → w'.cell? ⟨b, o, none⟩ = (((w.alloc (.cells #[.bool s, .slice A xs.length c] 24)).alloc (.cells #[.bool r, .slice B ys.length d] 24)).alloc (.cells #[.bool false, .slice none 0 0] 24)).cell? ⟨b, o, none⟩))
    (first | exact fun _ _ _ => rfl | with_reducible exact (bcellB (K1.out.mono (N2 _ _ _ _))).1 | with_reducible exact (bcellB (K2.out.mono (N2 _ _ _ _))).1 | exact (bcellB (((K2.out.mono (N2 _ _ _ _)).setCell (by simp) _).setCell (by simp) _)).1)
    (first
      | (go_at_call 99; ((with_reducible refine (TA.out _ (h.below (below_drew (below3 _ _ _ _))) (h'.below (below_drew (below3 _ _ _ _)))).mono ?_); rintro e w1 ⟨A1, c1, rfl, hd, hb⟩; (have K1 := Lib.hid (undrew hb)); (have G1 := Lib.hid hd); clear hb hd))
      | (go_at_call 82; ((with_reducible refine (TM.out _ _ _ G1.out).mono ?_); rintro e w2 ⟨A2, c2, rfl, hd, hb⟩; (have K2 := Lib.hid (K1.out.trans (hb.mono K1.out.size))); (obtain ⟨hc2, hf2⟩ := bcell K2.out); (have HO2 := Lib.hid (off_box (g := w.heap.size + 1 + 1) hd K2.out (by simp) noint2')); (have G2 := Lib.hid hd); clear hb hd)))
  go_wp2
  refine bodyPost_ret (v := .agg #[.bool (decide (z < 0)), .slice A2 (digs z.natAbs).length c2]) (by simp [results, Tryd.results65, go_sem, hc2]) rfl ?_
  exact zr_end _ (by omega) G2.out HO2.out ((below3 w _ _ _).trans (K2.out.mono (by simp; omega))) _ _
end Go.Proofs.YtaciohjobenipaaDoor
end

section
/-
  ref05: Neg, Add of any numbers.
-/
namespace Go.Proofs.YtaciohjobenipaaDoor
open Go.RowKit
set_option linter.unusedSimpArgs false
set_option linter.unusedVariables false
theorem rt_ofU {m e : Int} (h : dyR (decide (m < 0)) (digs m.natAbs) e = true) : Rt m e := by
  unfold dyR at h
  by_cases hm : m.natAbs = 0
  · rw [hm, digs_zero] at h
    have h2 : (e == 0) = true := by simp at h; simp [h.2]
    have h3 : e = 0 := by simpa using h2
    exact ⟨.inl ⟨by omega, h3⟩, by omega, by omega⟩
  · have hl : (digs m.natAbs).length ≠ 0 := fun e => hm (digs_nil.1 e)
    rw [if_neg hl] at h
    simp only [Bool.and_eq_true, decide_eq_true_eq] at h
    obtain ⟨⟨⟨_, h2⟩, h3⟩, h4⟩ := h
    rw [digs_pos hm] at h2
    simp only [List.getElem?_cons_zero, Option.getD_some] at h2
    exact ⟨.inr (by omega), h3, h4⟩
theorem nx_bdU {z y : Int} (h : (digs z.natAbs).length ≤ 100000) (y0 : -1000000 ≤ y) (y1 : y ≤ 1000000) : -10000000 ≤ nx z y ∧ nx z y ≤ 10000000 := by
  by_cases h0 : z = 0
  · unfold nx; rw [if_pos h0]; omega
  · have hb := bl_bd h
    have hlt : tz z.natAbs < 2 * 3200000 := by
      have := (blen_bd z.natAbs (by omega)).2.1
      have := tz_lt (by omega) this
      omega
    have e2 : nx z y = y + tz z.natAbs := by unfold nx; rw [if_neg h0]
    omega
theorem rzadd_j {A B : Option Addr} {c d : Nat} {p q z : Int} {w : World} (h : Dg w A c (digs p.natAbs)) (h' : Dg w B d (digs q.natAbs)) (hl : (digs p.natAbs).length ≤ 100000) (hl' : (digs q.natAbs).length ≤ 100000) (hz : p + q = z) :
    Calls Tryd.prog 63 #[.agg #[.bool (decide (p < 0)), .slice A (digs p.natAbs).length c], .agg #[.bool (decide (q < 0)), .slice B (digs q.natAbs).length d]] w fun e w' => Zr z w e w' := by
  have := rzadd_any A B c d (decide (p < 0)) (decide (q < 0)) _ _ w h h' (by omega) (by omega)
  rw [sg_of _ rfl, sg_of _ rfl, hz] at this; exact this
theorem rzmul_j {A B : Option Addr} {c d : Nat} {p q z : Int} {w : World} (h : Dg w A c (digs p.natAbs)) (h' : Dg w B d (digs q.natAbs)) (hl : (digs p.natAbs).length ≤ 100000) (hl' : (digs q.natAbs).length ≤ 100000) (hz : p * q = z) :
    Calls Tryd.prog 65 #[.agg #[.bool (decide (p < 0)), .slice A (digs p.natAbs).length c], .agg #[.bool (decide (q < 0)), .slice B (digs q.natAbs).length d]] w fun e w' => Zr z w e w' := by
  have := rzmul_any A B c d (decide (p < 0)) (decide (q < 0)) _ _ w h h' (by omega) (by omega)
  rw [sg_of _ rfl, sg_of _ rfl, hz] at this; exact this
theorem rzneg_j {A : Option Addr} {c : Nat} {p z : Int} {w : World} (h : Dg w A c (digs p.natAbs)) (hl : (digs p.natAbs).length ≤ 100000) (hz : -p = z) :
    Calls Tryd.prog 46 #[.agg #[.bool (decide (p < 0)), .slice A (digs p.natAbs).length c]] w fun e w' => Zr z w e w' := by
  have := rneg_any A c (decide (p < 0)) _ w h (by omega)
  rw [sg_of _ rfl, hz] at this; exact this
theorem rnorm_j {A : Option Addr} {c : Nat} {z y M E : Int} {w : World} (h : Dg w A c (digs z.natAbs)) (hl : (digs z.natAbs).length ≤ 100000) (y0 : -1000000 ≤ y) (y1 : y ≤ 1000000) (hM : nm z = M) (hE : nx z y = E) :
    Calls Tryd.prog 40 #[.agg #[.bool (decide (z < 0)), .slice A (digs z.natAbs).length c], .int .i64 y] w fun e w' => Yr M E w e w' :=
  rnorm_z h hl (sg_of _ rfl) hl y0 y1 hM hE

set_option maxHeartbeats 4000000 in
set_option maxRecDepth 100000 in
theorem r5neg_t (A : Option Addr) (c : Nat) (m x k : Int) (w : World) (h : Dg w A c (digs m.natAbs)) (hl : (digs m.natAbs).length ≤ 10000) (r1 : Rt m x) (hk : -m = k):
    Calls Tryd.prog 16 #[.agg #[.bool (decide (m < 0)), .slice A (digs m.natAbs).length c, .int .i64 x]] w fun e w' => Yr k x w e w' := by
  have lx := Lib.hid hl
  have HR := Lib.hid r1
  have HK := Lib.hid hk
  have L0 := Lib.hid ((live_start w).add h)
  clear h hl r1 hk
  go_enter Tryd.func16, Tryd.ntmps16
  go_wp2_with fail
  obtain ⟨v1, hW, hb, Rx_1, Rr_1⟩ := new2 w (.cells #[.bool (decide (m < 0)), .slice A (digs m.natAbs).length c, .int .i64 x] 26) (.cells #[.bool false, .slice none 0 0, .int .i64 0] 26)
  rw [← hW]
  have L1 := ls L0 hb
  have Gx := gl0 L0.out
  have Gr := gl1 L0.out
  have Nxr : w.heap.size < w.heap.size + 1 := by omega
  clear hW hb
  refine (r5right_t (L1.out.get (A := A) (c := c) (xs := digs m.natAbs) (by simp)) lx.out HR.out).mono ?_
  rintro e w2 ⟨rfl, hb⟩
  have L2 := ls L1 hb
  have Rx_2 := co Rx_1 hb
  have Rr_2 := co Rr_1 hb
  clear hb 
  obtain ⟨fx0, zx0, fx1, zx1, fx2, zx2, xx⟩ := ly3 Rx_2.out
  obtain ⟨fr0, zr0, fr1, zr1, fr2, zr2, xr⟩ := ly3 Rr_2.out
  go_wp2_with fail
  clear fx0 zx0 fx1 zx1 fx2 zx2 xx fr0 zr0 fr1 zr1 fr2 zr2 xr
  obtain ⟨fx0, zx0, fx1, zx1, fx2, zx2, xx⟩ := ly3 Rx_2.out
  have KD := Lib.hid (bd0 w2)
  have LD := ls L2 KD.out
  have Mx : w.heap.size ≠ w.heap.size + 1 := by omega
  go_region_held3 (fun w' => (∀ o, w'.cell? ⟨w.heap.size, o, none⟩ = w2.cell? ⟨w.heap.size, o, none⟩))
    (first | with_reducible exact keep_b KD.out xx | with_reducible exact keep_b K4.out xx | exact (keep_set (keep_b K4.out xx) Mx) | exact (keep_set (keep_set (keep_b K4.out xx) Mx) Mx) | exact (keep_set (keep_set (keep_set (keep_b K4.out xx) Mx) Mx) Mx))
    (first
      | (go_at_call 46; (with_reducible refine (rzneg_j (LD.out.get (A := A) (c := c) (xs := digs m.natAbs) (by simp)) (Nat.le_trans lx.out (by omega)) HK.out).mono ?_); rintro e w4 ⟨A4, c4, rfl, hd, hb⟩; (have K4 := bt KD hb); (have L4 := la LD hb hd); (have qr0_K4 := row_c (i := 0) (co Rr_2 K4.out).out rfl); (have pr0_K4 := frozen_of_row _ _ 0 _ _ (cells_of Rr_2.out K4.out)); (have qr1_K4 := row_c (i := 1) (co Rr_2 K4.out).out rfl); (have pr1_K4 := frozen_of_row _ _ 1 _ _ (cells_of Rr_2.out K4.out)); (have qr2_K4 := row_c (i := 2) (co Rr_2 K4.out).out rfl); (have pr2_K4 := frozen_of_row _ _ 2 _ _ (cells_of Rr_2.out K4.out)); clear hb hd))
  rename_i hHeld
  clear hHeld
  clear fx0 zx0 fx1 zx1 fx2 zx2 xx
  have Rx_4 := co Rx_2 K4.out
  have Rr_4 := co Rr_2 K4.out
  obtain ⟨fr0, zr0, fr1, zr1, fr2, zr2, xr⟩ := ly3 Rr_4.out
  go_wp2
  refine bodyPost_ret (v := .agg #[.bool (decide (k < 0)), .slice A4 (digs k.natAbs).length c4, .int .i64 x]) (by simp [results, Tryd.results16, go_sem, fr0, fr1, fr2]) rfl ?_
  
  refine ⟨A4, c4, rfl, ?_, ?_⟩
  · exact (fin3 L4.out Rr_4.out noint3 Gr).get (A := A4) (c := c4) (xs := digs k.natAbs) (by simp)
  · exact (fin3 L4.out Rr_4.out noint3 Gr).1

set_option maxHeartbeats 4000000 in
set_option maxRecDepth 100000 in
theorem r5neg_no (A : Option Addr) (c : Nat) (s : Bool) (xs : List Nat) (x : Int) (w : World) (h : Dg w A c xs) (hl : xs.length ≤ 9223372036854775807) (hq : dyR s xs x = false):
    Calls Tryd.prog 16 #[.agg #[.bool s, .slice A xs.length c, .int .i64 x]] w fun e w' => e = .returned (.agg #[.bool false, .slice none 0 0, .int .i64 0]) ∧ Below w.heap.size w w' := by
  have lx := Lib.hid hl
  have HQ := Lib.hid hq
  have L0 := Lib.hid ((live_start w).add h)
  clear h hl hq
  go_enter Tryd.func16, Tryd.ntmps16
  go_wp2_with fail
  obtain ⟨v1, hW, hb, Rx_1, Rr_1⟩ := new2 w (.cells #[.bool s, .slice A xs.length c, .int .i64 x] 26) (.cells #[.bool false, .slice none 0 0, .int .i64 0] 26)
  rw [← hW]
  have L1 := ls L0 hb
  have Gx := gl0 L0.out
  have Gr := gl1 L0.out
  have Nxr : w.heap.size < w.heap.size + 1 := by omega
  clear hW hb
  refine (r5right_any (L1.out.get (A := A) (c := c) (xs := xs) (by simp)) lx.out HQ.out).mono ?_
  rintro e w2 ⟨rfl, hb⟩
  have L2 := ls L1 hb
  have Rx_2 := co Rx_1 hb
  have Rr_2 := co Rr_1 hb
  clear hb 
  obtain ⟨fr0, zr0, fr1, zr1, fr2, zr2, xr⟩ := ly3 Rr_2.out
  go_wp2
  refine bodyPost_ret (v := .agg #[.bool false, .slice none 0 0, .int .i64 0]) (by simp [results, Tryd.results16, go_sem, fr0, fr1, fr2]) rfl ?_
  exact ⟨rfl, (fin3 L2.out Rr_2.out noint3 Gr).1⟩

set_option maxHeartbeats 4000000 in
set_option maxRecDepth 100000 in
theorem r5add_no_ff (A B : Option Addr) (c d : Nat) (s r : Bool) (xs ys : List Nat) (x y : Int) (w : World) (h : Dg w A c xs) (h' : Dg w B d ys) (hl : xs.length ≤ 9223372036854775807) (hl' : ys.length ≤ 9223372036854775807) (hp : dyR s xs x = false) (hq : dyR r ys y = false):
    Calls Tryd.prog 24 #[.agg #[.bool s, .slice A xs.length c, .int .i64 x], .agg #[.bool r, .slice B ys.length d, .int .i64 y]] w fun e w' => e = .returned (.tuple #[.agg #[.bool false, .slice none 0 0, .int .i64 0], .int .i64 1]) ∧ Below w.heap.size w w' := by
  have lx := Lib.hid hl
  have ly := Lib.hid hl'
  have HP := Lib.hid hp
  have HQ := Lib.hid hq
  have L0 := Lib.hid (((live_start w).add h).add h')
  clear h h' hl hl' hp hq
  go_enter Tryd.func24, Tryd.ntmps24
  go_wp2_with fail
  obtain ⟨v1, hW, hb, Rx_1, Ry_1, Rr_1⟩ := new3 w (.cells #[.bool s, .slice A xs.length c, .int .i64 x] 26) (.cells #[.bool r, .slice B ys.length d, .int .i64 y] 26) (.cells #[.bool false, .slice none 0 0, .int .i64 0] 26)
  rw [← hW]
  have L1 := ls L0 hb
  have Gx := gl0 L0.out
  have Gy := gl1 L0.out
  have Nxy : w.heap.size < w.heap.size + 1 := by omega
  have Gr := gl2 L0.out
  have Nxr : w.heap.size < w.heap.size + 1 + 1 := by omega
  have Nyr : w.heap.size + 1 < w.heap.size + 1 + 1 := by omega
  clear hW hb
  refine (r5right_any (L1.out.get (A := A) (c := c) (xs := xs) (by simp)) lx.out HP.out).mono ?_
  rintro e w2 ⟨rfl, hb⟩
  have L2 := ls L1 hb
  have Rx_2 := co Rx_1 hb
  have Ry_2 := co Ry_1 hb
  have Rr_2 := co Rr_1 hb
  clear hb 
  obtain ⟨fy0, zy0, fy1, zy1, fy2, zy2, xy⟩ := ly3 Ry_2.out
  go_wp2_with fail
  refine (r5right_any (L2.out.get (A := B) (c := d) (xs := ys) (by simp)) ly.out HQ.out).mono ?_
  rintro e w3 ⟨rfl, hb⟩
  have L3 := ls L2 hb
  clear fy0 zy0 fy1 zy1 fy2 zy2 xy
  have Rx_3 := co Rx_2 hb
  have Ry_3 := co Ry_2 hb
  have Rr_3 := co Rr_2 hb
  clear hb 
  obtain ⟨fr0, zr0, fr1, zr1, fr2, zr2, xr⟩ := ly3 Rr_3.out
  go_wp2
  refine bodyPost_ret (v := .tuple #[.agg #[.bool false, .slice none 0 0, .int .i64 0], .int .i64 1]) (by simp [results, Tryd.results24, go_sem, fr0, fr1, fr2]) rfl ?_
  exact ⟨rfl, (fin3 L3.out Rr_3.out noint3 Gr).1⟩

set_option maxHeartbeats 4000000 in
set_option maxRecDepth 100000 in
theorem r5add_no_ft (A B : Option Addr) (c d : Nat) (s r : Bool) (xs ys : List Nat) (x y : Int) (w : World) (h : Dg w A c xs) (h' : Dg w B d ys) (hl : xs.length ≤ 9223372036854775807) (hl' : ys.length ≤ 9223372036854775807) (hp : dyR s xs x = false) (hq : dyR r ys y = true):
    Calls Tryd.prog 24 #[.agg #[.bool s, .slice A xs.length c, .int .i64 x], .agg #[.bool r, .slice B ys.length d, .int .i64 y]] w fun e w' => e = .returned (.tuple #[.agg #[.bool false, .slice none 0 0, .int .i64 0], .int .i64 1]) ∧ Below w.heap.size w w' := by
  have lx := Lib.hid hl
  have ly := Lib.hid hl'
  have HP := Lib.hid hp
  have HQ := Lib.hid hq
  have L0 := Lib.hid (((live_start w).add h).add h')
  clear h h' hl hl' hp hq
  go_enter Tryd.func24, Tryd.ntmps24
  go_wp2_with fail
  obtain ⟨v1, hW, hb, Rx_1, Ry_1, Rr_1⟩ := new3 w (.cells #[.bool s, .slice A xs.length c, .int .i64 x] 26) (.cells #[.bool r, .slice B ys.length d, .int .i64 y] 26) (.cells #[.bool false, .slice none 0 0, .int .i64 0] 26)
  rw [← hW]
  have L1 := ls L0 hb
  have Gx := gl0 L0.out
  have Gy := gl1 L0.out
  have Nxy : w.heap.size < w.heap.size + 1 := by omega
  have Gr := gl2 L0.out
  have Nxr : w.heap.size < w.heap.size + 1 + 1 := by omega
  have Nyr : w.heap.size + 1 < w.heap.size + 1 + 1 := by omega
  clear hW hb
  refine (r5right_any (L1.out.get (A := A) (c := c) (xs := xs) (by simp)) lx.out HP.out).mono ?_
  rintro e w2 ⟨rfl, hb⟩
  have L2 := ls L1 hb
  have Rx_2 := co Rx_1 hb
  have Ry_2 := co Ry_1 hb
  have Rr_2 := co Rr_1 hb
  clear hb 
  obtain ⟨fy0, zy0, fy1, zy1, fy2, zy2, xy⟩ := ly3 Ry_2.out
  go_wp2_with fail
  refine (r5right_any (L2.out.get (A := B) (c := d) (xs := ys) (by simp)) ly.out HQ.out).mono ?_
  rintro e w3 ⟨rfl, hb⟩
  have L3 := ls L2 hb
  clear fy0 zy0 fy1 zy1 fy2 zy2 xy
  have Rx_3 := co Rx_2 hb
  have Ry_3 := co Ry_2 hb
  have Rr_3 := co Rr_2 hb
  clear hb 
  obtain ⟨fr0, zr0, fr1, zr1, fr2, zr2, xr⟩ := ly3 Rr_3.out
  go_wp2
  refine bodyPost_ret (v := .tuple #[.agg #[.bool false, .slice none 0 0, .int .i64 0], .int .i64 1]) (by simp [results, Tryd.results24, go_sem, fr0, fr1, fr2]) rfl ?_
  exact ⟨rfl, (fin3 L3.out Rr_3.out noint3 Gr).1⟩

set_option maxHeartbeats 4000000 in
set_option maxRecDepth 100000 in
theorem r5add_no_tf (A B : Option Addr) (c d : Nat) (s r : Bool) (xs ys : List Nat) (x y : Int) (w : World) (h : Dg w A c xs) (h' : Dg w B d ys) (hl : xs.length ≤ 9223372036854775807) (hl' : ys.length ≤ 9223372036854775807) (hp : dyR s xs x = true) (hq : dyR r ys y = false):
    Calls Tryd.prog 24 #[.agg #[.bool s, .slice A xs.length c, .int .i64 x], .agg #[.bool r, .slice B ys.length d, .int .i64 y]] w fun e w' => e = .returned (.tuple #[.agg #[.bool false, .slice none 0 0, .int .i64 0], .int .i64 1]) ∧ Below w.heap.size w w' := by
  have lx := Lib.hid hl
  have ly := Lib.hid hl'
  have HP := Lib.hid hp
  have HQ := Lib.hid hq
  have L0 := Lib.hid (((live_start w).add h).add h')
  clear h h' hl hl' hp hq
  go_enter Tryd.func24, Tryd.ntmps24
  go_wp2_with fail
  obtain ⟨v1, hW, hb, Rx_1, Ry_1, Rr_1⟩ := new3 w (.cells #[.bool s, .slice A xs.length c, .int .i64 x] 26) (.cells #[.bool r, .slice B ys.length d, .int .i64 y] 26) (.cells #[.bool false, .slice none 0 0, .int .i64 0] 26)
  rw [← hW]
  have L1 := ls L0 hb
  have Gx := gl0 L0.out
  have Gy := gl1 L0.out
  have Nxy : w.heap.size < w.heap.size + 1 := by omega
  have Gr := gl2 L0.out
  have Nxr : w.heap.size < w.heap.size + 1 + 1 := by omega
  have Nyr : w.heap.size + 1 < w.heap.size + 1 + 1 := by omega
  clear hW hb
  refine (r5right_any (L1.out.get (A := A) (c := c) (xs := xs) (by simp)) lx.out HP.out).mono ?_
  rintro e w2 ⟨rfl, hb⟩
  have L2 := ls L1 hb
  have Rx_2 := co Rx_1 hb
  have Ry_2 := co Ry_1 hb
  have Rr_2 := co Rr_1 hb
  clear hb 
  obtain ⟨fy0, zy0, fy1, zy1, fy2, zy2, xy⟩ := ly3 Ry_2.out
  go_wp2_with fail
  refine (r5right_any (L2.out.get (A := B) (c := d) (xs := ys) (by simp)) ly.out HQ.out).mono ?_
  rintro e w3 ⟨rfl, hb⟩
  have L3 := ls L2 hb
  clear fy0 zy0 fy1 zy1 fy2 zy2 xy
  have Rx_3 := co Rx_2 hb
  have Ry_3 := co Ry_2 hb
  have Rr_3 := co Rr_2 hb
  clear hb 
  obtain ⟨fr0, zr0, fr1, zr1, fr2, zr2, xr⟩ := ly3 Rr_3.out
  go_wp2
  refine bodyPost_ret (v := .tuple #[.agg #[.bool false, .slice none 0 0, .int .i64 0], .int .i64 1]) (by simp [results, Tryd.results24, go_sem, fr0, fr1, fr2]) rfl ?_
  exact ⟨rfl, (fin3 L3.out Rr_3.out noint3 Gr).1⟩

theorem r5add_no {A B : Option Addr} {c d : Nat} {s r : Bool} {xs ys : List Nat} {x y : Int} {w : World} (h : Dg w A c xs) (h' : Dg w B d ys) (hl : xs.length ≤ 9223372036854775807) (hl' : ys.length ≤ 9223372036854775807) (hq : (dyR s xs x && dyR r ys y) = false) :
    Calls Tryd.prog 24 #[.agg #[.bool s, .slice A xs.length c, .int .i64 x], .agg #[.bool r, .slice B ys.length d, .int .i64 y]] w fun e w' => Ye 0 0 1 w e w' := by
  obtain ⟨p, hp⟩ : ∃ p, dyR s xs x = p := ⟨_, rfl⟩
  obtain ⟨q, hq2⟩ : ∃ p, dyR r ys y = p := ⟨_, rfl⟩
  rw [hp, hq2] at hq
  cases p <;> cases q
  · refine (r5add_no_ff A B c d s r xs ys x y w h h' hl hl' hp hq2).mono ?_
    rintro e w' ⟨rfl, hb⟩; exact zero_ye hb
  · refine (r5add_no_ft A B c d s r xs ys x y w h h' hl hl' hp hq2).mono ?_
    rintro e w' ⟨rfl, hb⟩; exact zero_ye hb
  · refine (r5add_no_tf A B c d s r xs ys x y w h h' hl hl' hp hq2).mono ?_
    rintro e w' ⟨rfl, hb⟩; exact zero_ye hb
  · cases hq

set_option maxHeartbeats 4000000 in
set_option maxRecDepth 100000 in
theorem r5add_b_ (A B : Option Addr) (c d : Nat) (m n x y : Int) (p q e0 z M E : Int) (w : World) (h : Dg w A c (digs m.natAbs)) (h' : Dg w B d (digs n.natAbs)) (hl : (digs m.natAbs).length ≤ 10000) (hl' : (digs n.natAbs).length ≤ 10000) (r1 : Rt m x) (r2 : Rt n y) (hf : ∀ W, Dg W A c (digs m.natAbs) → Dg W B d (digs n.natAbs) → Calls Tryd.prog 53 #[.agg #[.bool (decide (m < 0)), .slice A (digs m.natAbs).length c, .int .i64 x], .agg #[.bool (decide (n < 0)), .slice B (digs n.natAbs).length d, .int .i64 y]] W (Ybs p q e0 W)) (lp : (digs p.natAbs).length ≤ 20000) (lq : (digs q.natAbs).length ≤ 20000) (hz : p + q = z) (lz : (digs z.natAbs).length ≤ 50000) (e00 : -1000000 ≤ e0) (e01 : e0 ≤ 1000000) (hM : nm z = M) (hE : nx z e0 = E) {K F V : Int} (hq : tot M E = (K, F, V)):
    Calls Tryd.prog 24 #[.agg #[.bool (decide (m < 0)), .slice A (digs m.natAbs).length c, .int .i64 x], .agg #[.bool (decide (n < 0)), .slice B (digs n.natAbs).length d, .int .i64 y]] w fun e w' => Ye K F V w e w' := by
  have HR1 := Lib.hid r1
  have HR2 := Lib.hid r2
  have lx := Lib.hid hl
  have ly := Lib.hid hl'
  have HQ := Lib.hid hq
  have HF := Lib.hid hf
  have LP := Lib.hid lp
  have LQ := Lib.hid lq
  have HZ := Lib.hid hz
  have LZ := Lib.hid lz
  have E0 := Lib.hid (And.intro e00 e01)
  have HM := Lib.hid hM
  have HE := Lib.hid hE
  have BE := nx_bdU (z := z) (y := e0) (by omega) e00 e01
  rw [hE] at BE
  have BE := Lib.hid BE
  have LM := nm_len z
  rw [hM] at LM
  have LM := Lib.hid (Nat.le_trans LM lz)
  have L0 := Lib.hid (((live_start w).add h).add h')
  clear h h' hl hl' r1 r2 hf lp lq hz lz e00 e01 hM hE hq
  go_enter Tryd.func24, Tryd.ntmps24
  go_wp2_with fail
  obtain ⟨v1, hW, hb, Rx_1, Ry_1, Rr_1⟩ := new3 w (.cells #[.bool (decide (m < 0)), .slice A (digs m.natAbs).length c, .int .i64 x] 26) (.cells #[.bool (decide (n < 0)), .slice B (digs n.natAbs).length d, .int .i64 y] 26) (.cells #[.bool false, .slice none 0 0, .int .i64 0] 26)
  rw [← hW]
  have L1 := ls L0 hb
  have Gx := gl0 L0.out
  have Gy := gl1 L0.out
  have Nxy : w.heap.size < w.heap.size + 1 := by omega
  have Gr := gl2 L0.out
  have Nxr : w.heap.size < w.heap.size + 1 + 1 := by omega
  have Nyr : w.heap.size + 1 < w.heap.size + 1 + 1 := by omega
  clear hW hb
  refine (r5right_t (L1.out.get (A := A) (c := c) (xs := digs m.natAbs) (by simp)) lx.out HR1.out).mono ?_
  rintro e w2 ⟨rfl, hb⟩
  have L2 := ls L1 hb
  have Rx_2 := co Rx_1 hb
  have Ry_2 := co Ry_1 hb
  have Rr_2 := co Rr_1 hb
  clear hb 
  obtain ⟨fy0, zy0, fy1, zy1, fy2, zy2, xy⟩ := ly3 Ry_2.out
  go_wp2_with fail
  refine (r5right_t (L2.out.get (A := B) (c := d) (xs := digs n.natAbs) (by simp)) ly.out HR2.out).mono ?_
  rintro e w3 ⟨rfl, hb⟩
  have L3 := ls L2 hb
  clear fy0 zy0 fy1 zy1 fy2 zy2 xy
  have Rx_3 := co Rx_2 hb
  have Ry_3 := co Ry_2 hb
  have Rr_3 := co Rr_2 hb
  clear hb 
  obtain ⟨fx0, zx0, fx1, zx1, fx2, zx2, xx⟩ := ly3 Rx_3.out
  obtain ⟨fy0, zy0, fy1, zy1, fy2, zy2, xy⟩ := ly3 Ry_3.out
  go_wp2_with fail
  refine (HF.out _ (L3.out.get (A := A) (c := c) (xs := digs m.natAbs) (by simp)) (L3.out.get (A := B) (c := d) (xs := digs n.natAbs) (by simp))).mono ?_
  rintro e w4 ⟨A4, c4, B4, d4, rfl, hd, hd', hb⟩
  have L4 := Lib.hid (((L3.out.step hb).add hd).add hd')
  clear fx0 zx0 fx1 zx1 fx2 zx2 xx fy0 zy0 fy1 zy1 fy2 zy2 xy
  have Rx_4 := co Rx_3 hb
  have Ry_4 := co Ry_3 hb
  have Rr_4 := co Rr_3 hb
  clear hb hd hd'
  go_wp2_with fail
  obtain ⟨w5, hW, hb, Ra_5, Rb_5⟩ := new2 w4 (.cells #[.bool (decide (p < 0)), .slice A4 (digs p.natAbs).length c4] 24) (.cells #[.bool (decide (q < 0)), .slice B4 (digs q.natAbs).length d4] 24)
  rw [← hW]
  have L5 := ls L4 hb
  have Rx_5 := co Rx_4 hb
  have Ry_5 := co Ry_4 hb
  have Rr_5 := co Rr_4 hb
  have Ga := gl0 L4.out
  have Nxa := nl0 Rx_4.out
  have Nya := nl0 Ry_4.out
  have Nra := nl0 Rr_4.out
  have Gb := gl1 L4.out
  have Nxb := nl1 Rx_4.out
  have Nyb := nl1 Ry_4.out
  have Nrb := nl1 Rr_4.out
  have Nab : w4.heap.size < w4.heap.size + 1 := by omega
  clear hW hb
  refine (rzadd_j (L5.out.get (A := A4) (c := c4) (xs := digs p.natAbs) (by simp)) (L5.out.get (A := B4) (c := d4) (xs := digs q.natAbs) (by simp)) (Nat.le_trans LP.out (by omega)) (Nat.le_trans LQ.out (by omega)) HZ.out).mono ?_
  rintro e w6 ⟨A6, c6, rfl, hd, hb⟩
  have L6 := la L5 hb hd
  have Rx_6 := co Rx_5 hb
  have Ry_6 := co Ry_5 hb
  have Rr_6 := co Rr_5 hb
  have Ra_6 := co Ra_5 hb
  have Rb_6 := co Rb_5 hb
  clear hb hd
  go_wp2_with fail
  refine (rnorm_j (L6.out.get (A := A6) (c := c6) (xs := digs z.natAbs) (by simp)) (Nat.le_trans LZ.out (by omega)) E0.out.1 E0.out.2 HM.out HE.out).mono ?_
  rintro e w7 ⟨A7, c7, rfl, hd, hb⟩
  have L7 := la L6 hb hd
  have Rx_7 := co Rx_6 hb
  have Ry_7 := co Ry_6 hb
  have Rr_7 := co Rr_6 hb
  have Ra_7 := co Ra_6 hb
  have Rb_7 := co Rb_6 hb
  clear hb hd
  go_wp2_with fail
  refine (r5told (L7.out.get (A := A7) (c := c7) (xs := digs M.natAbs) (by simp)) (Nat.le_trans LM.out (by omega)) BE.out.1 BE.out.2 HQ.out).mono ?_
  rintro e w8 ⟨A8, c8, rfl, hd, hb⟩
  have L8 := la L7 hb hd
  have Rx_8 := co Rx_7 hb
  have Ry_8 := co Ry_7 hb
  have Rr_8 := co Rr_7 hb
  have Ra_8 := co Ra_7 hb
  have Rb_8 := co Rb_7 hb
  clear hb hd
  obtain ⟨fr0, zr0, fr1, zr1, fr2, zr2, xr⟩ := ly3 Rr_8.out
  go_wp2
  refine bodyPost_ret (v := .tuple #[.agg #[.bool (decide (K < 0)), .slice A8 (digs K.natAbs).length c8, .int .i64 F], .int .i64 V]) (by simp [results, Tryd.results24, go_sem, fr0, fr1, fr2]) rfl ?_
  
  refine ⟨A8, c8, rfl, ?_, ?_⟩
  · exact (fin3 L8.out Rr_8.out noint3 Gr).get (A := A8) (c := c8) (xs := digs K.natAbs) (by simp)
  · exact (fin3 L8.out Rr_8.out noint3 Gr).1

theorem ybs_z1 {A B : Option Addr} {c d : Nat} {m n x y : Int} {w : World} (h : Dg w A c (digs m.natAbs)) (h' : Dg w B d (digs n.natAbs)) (m0 : m = 0) :
    Calls Tryd.prog 53 #[.agg #[.bool (decide (m < 0)), .slice A (digs m.natAbs).length c, .int .i64 x], .agg #[.bool (decide (n < 0)), .slice B (digs n.natAbs).length d, .int .i64 y]] w (Ybs 0 n y w) := by
  refine (r5lift_z1 A B c d m n x y w h h' m0).mono ?_
  rintro e w' ⟨C, k, rfl, hd, hb⟩
  have e0 : digs (0 : Int).natAbs = [] := digs_zero
  exact ⟨none, 0, C, k, by rw [e0]; rfl, by rw [e0]; exact Dg.nil_ _ _, hd, hb⟩
theorem ybs_z2 {A B : Option Addr} {c d : Nat} {m n x y : Int} {w : World} (h : Dg w A c (digs m.natAbs)) (h' : Dg w B d (digs n.natAbs)) (m0 : m ≠ 0) (n0 : n = 0) :
    Calls Tryd.prog 53 #[.agg #[.bool (decide (m < 0)), .slice A (digs m.natAbs).length c, .int .i64 x], .agg #[.bool (decide (n < 0)), .slice B (digs n.natAbs).length d, .int .i64 y]] w (Ybs m 0 x w) := by
  refine (r5lift_z2 A B c d m n x y w h h' m0 n0).mono ?_
  rintro e w' ⟨C, k, rfl, hd, hb⟩
  have e0 : digs (0 : Int).natAbs = [] := digs_zero
  exact ⟨C, k, none, 0, by rw [e0]; rfl, hd, by rw [e0]; exact Dg.nil_ _ _, hb⟩

theorem r5add_t {A B : Option Addr} {c d : Nat} {m n x y M E K F V : Int} {w : World} (h : Dg w A c (digs m.natAbs)) (h' : Dg w B d (digs n.natAbs)) (hl : (digs m.natAbs).length ≤ 10000) (hl' : (digs n.natAbs).length ≤ 10000) (r1 : Rt m x) (r2 : Rt n y) (hs : IsD (dv m x + dv n y) M E) (hq : tot M E = (K, F, V)) :
    Calls Tryd.prog 24 #[.agg #[.bool (decide (m < 0)), .slice A (digs m.natAbs).length c, .int .i64 x], .agg #[.bool (decide (n < 0)), .slice B (digs n.natAbs).length d, .int .i64 y]] w fun e w' => Ye K F V w e w' := by
  have e0 : (digs (0 : Int).natAbs).length = 0 := by rw [show digs (0 : Int).natAbs = [] from digs_zero]; rfl
  by_cases m0 : m = 0
  · have hu := IsD.of (m := n) (e := y) (M := M) (E := E) (by rw [m0, dv_zero, Rat.zero_add] at hs; exact hs)
    exact r5add_b_ A B c d m n x y 0 n y n M E w h h' hl hl' r1 r2 (fun W a b => ybs_z1 a b m0) (by omega) (by omega) (by omega) (by omega) (by have := r2.2; omega) (by have := r2.2; omega) hu.1 hu.2 hq
  · by_cases n0 : n = 0
    · have hu := IsD.of (m := m) (e := x) (M := M) (E := E) (by rw [n0, dv_zero, Rat.add_zero] at hs; exact hs)
      exact r5add_b_ A B c d m n x y m 0 x m M E w h h' hl hl' r1 r2 (fun W a b => ybs_z2 a b m0 n0) (by omega) (by omega) (by omega) (by omega) (by have := r1.2; omega) (by have := r1.2; omega) hu.1 hu.2 hq
    · obtain ⟨e1, he1⟩ : ∃ e, min x y = e := ⟨_, rfl⟩
      have ez := sum_upto m x n y
      rw [he1] at ez
      have x0 := r1.2.1
      have x1 := r1.2.2
      have y0 := r2.2.1
      have y1 := r2.2.2
      have lp := upto_len2 (m := m) (x := x) (e0 := e1) hl (by omega)
      have lq := upto_len2 (m := n) (x := y) (e0 := e1) hl' (by omega)
      have hu := IsD.of (m := upto m x e1 + upto n y e1) (e := e1) (M := M) (E := E) (by rw [ez]; exact hs)
      have h1 := digs_len_mono _ _ (by omega : (upto m x e1 + upto n y e1).natAbs ≤ (upto m x e1).natAbs + (upto n y e1).natAbs)
      have h2 := digs_add_len (upto m x e1).natAbs (upto n y e1).natAbs
      exact r5add_b_ A B c d m n x y _ _ e1 _ M E w h h' hl hl' r1 r2 (fun W a b => r5lift_any a b hl hl' x0 x1 y0 y1 m0 n0 he1 rfl rfl) lp lq rfl (by omega) (by omega) (by omega) hu.1 hu.2 hq
end Go.Proofs.YtaciohjobenipaaDoor
end
