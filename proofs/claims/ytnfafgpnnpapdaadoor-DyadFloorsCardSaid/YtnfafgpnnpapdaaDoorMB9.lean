import Derived.Test.YtnfafgpnnpapdaaDoorMB8
import Derived.Test.YtnfafgpnnpapdaaDoorMB7
import Derived.Test.YtnfafgpnnpapdaaDoorMB4
import Derived.Test.YtnfafgpnnpapdaaDoorMB3
import Derived.Test.YtnfafgpnnpapdaaDoorMB1
import Derived.Test.YtnfafgpnnpapdaaDoorMB5
section
/-
  Div by 0, Sqrt below 0, Cmp with 0; that there are quotients and roots.
-/
namespace Go.Proofs.YtnfafgpnnpapdaaDoor
open Go.RowKit
set_option linter.unusedSimpArgs false
set_option linter.unusedVariables false
theorem dv_scale (m e k : Int) : dv m (e + k) = dv m e * 2 ^ k := by
  unfold dv; rw [zpow_add2]; grind
theorem rabs_mul (a b : Rat) : (a * b).abs = a.abs * b.abs := by
  rcases (Rat.le_total : 0 ≤ a ∨ a ≤ 0) with ha | ha <;> rcases (Rat.le_total : 0 ≤ b ∨ b ≤ 0) with hb | hb
  · rw [Rat.abs_of_nonneg ha, Rat.abs_of_nonneg hb, Rat.abs_of_nonneg (Rat.mul_nonneg ha hb)]
  · rw [Rat.abs_of_nonneg ha, Rat.abs_of_nonpos hb, Rat.abs_of_nonpos (by have := Rat.mul_nonneg ha (show 0 ≤ -b by grind); grind)]; grind
  · rw [Rat.abs_of_nonpos ha, Rat.abs_of_nonneg hb, Rat.abs_of_nonpos (by have := Rat.mul_nonneg (show 0 ≤ -a by grind) hb; grind)]; grind
  · rw [Rat.abs_of_nonpos ha, Rat.abs_of_nonpos hb, Rat.abs_of_nonneg (by have := Rat.mul_nonneg (show 0 ≤ -a by grind) (show 0 ≤ -b by grind); grind)]; grind
/-- A number that is not 0 lies between powers of 2. -/
theorem Bd.size {L H m x : Int} (h : Bd L H m x) (m0 : m ≠ 0) : 2 ^ L ≤ (dv m x).abs ∧ (dv m x).abs < 2 ^ H := by
  have a := h.2.resolve_left m0
  have ⟨s1, s2⟩ := sz_dv (e := x) m0
  have := bl_pos m0
  exact ⟨Rat.le_trans (zpow_le.2 (by omega)) s1, rlt_le s2 (zpow_le.2 a.2)⟩
theorem quot_bd {a b r : Rat} {L H L' H' : Int} (hr : r * b = a) (h1 : 2 ^ L ≤ a.abs) (h2 : a.abs < 2 ^ H) (h3 : 2 ^ L' ≤ b.abs) (h4 : b.abs < 2 ^ H') : 2 ^ (L - H') ≤ r.abs ∧ r.abs < 2 ^ (H - L') := by
  rw [← hr, rabs_mul] at h1 h2
  have hb : 0 < b.abs := rlt_le (zpow_pos L') h3
  constructor
  · refine Rat.le_of_mul_le_mul_right (c := b.abs) ?_ hb
    refine Rat.le_trans ?_ h1
    have e : (2 : Rat) ^ L = 2 ^ (L - H') * 2 ^ H' := by rw [← zpow_add2]; congr 1; omega
    rw [e]
    exact Rat.mul_le_mul_of_nonneg_left (Rat.le_of_lt h4) (Rat.le_of_lt (zpow_pos _))
  · refine Rat.lt_of_mul_lt_mul_right (c := b.abs) ?_ (Rat.le_of_lt hb)
    refine rlt_le h2 ?_
    have e : (2 : Rat) ^ H = 2 ^ (H - L') * 2 ^ L' := by rw [← zpow_add2]; congr 1; omega
    rw [e]
    exact Rat.mul_le_mul_of_nonneg_left h3 (Rat.le_of_lt (zpow_pos _))
theorem Bd.div {L H L' H' m x n y M E : Int} {p : Nat} {up : Bool} (h1 : 1 ≤ p) (h : Bd L H m x) (h' : Bd L' H' n y) (n0 : n ≠ 0) (hr : RdOf (dv m x / dv n y) p up M E) : Bd (L - H' - p) (H - L' + 1) M E := by
  refine rd_bd h1 hr ?_
  have hn : dv n y ≠ 0 := fun e => n0 (dv_eq0.1 e)
  by_cases hm : m = 0
  · left; rw [hm, dv_zero, Rat.div_def, Rat.zero_mul]
  · right
    have a := h.size hm
    have b := h'.size n0
    exact quot_bd (Rat.div_mul_cancel hn) a.1 a.2 b.1 b.2
theorem div_exists {m n x y : Int} (hn : n ≠ 0) {p : Nat} (h1 : 1 ≤ p) (up : Bool) : ∃ M E, RdOf (dv m x / dv n y) p up M E := by
  by_cases h0 : m = 0
  · exact ⟨0, 0, .inl ⟨rfl, rfl⟩, .inl ⟨by rw [h0, dv_zero, Rat.div_def, Rat.zero_mul], rfl⟩⟩
  · exact ⟨_, _, (div_kept (k := p + blen n.natAbs) (more := decide (m.natAbs * 2 ^ (p + blen n.natAbs) % n.natAbs ≠ 0)) (up := up) h0 hn h1 (by omega) rfl).2⟩
theorem RsOf.self {m x : Int} {p : Nat} (h1 : 1 ≤ p) (hn : Nf m x) (h0 : 0 ≤ m) (hb : bl m ≤ p) : RsOf (dv m x * dv m x) p false m x := by
  refine ⟨hn, ?_⟩
  by_cases hm : m = 0
  · left; rw [hm, dv_zero]; exact ⟨Rat.zero_mul 0, rfl⟩
  · right
    have e : dv (m * 2 ^ (p - bl m)) (x - (p - bl m : Nat)) = dv m x := by
      rw [dv_pow]; congr 1; omega
    have ⟨a, b, _⟩ := blen_bd m.natAbs (by omega)
    have hbl : blen m.natAbs = bl m := rfl
    have hp := bl_pos hm
    rw [hbl] at a b
    have hma : (m.natAbs : Int) = m := by omega
    refine ⟨x - (p - bl m : Nat), m * 2 ^ (p - bl m), ?_, ?_, ?_, ?_, ?_⟩
    · have : 2 ^ (bl m - 1) * 2 ^ (p - bl m) ≤ m.natAbs * 2 ^ (p - bl m) := Nat.mul_le_mul_right _ a
      rw [← Nat.pow_add, show bl m - 1 + (p - bl m) = p - 1 by omega] at this
      rw [← hma]; exact_mod_cast this
    · have : m.natAbs * 2 ^ (p - bl m) < 2 ^ bl m * 2 ^ (p - bl m) := Nat.mul_lt_mul_of_pos_right b (Nat.pow_pos (by omega))
      rw [← Nat.pow_add, show bl m + (p - bl m) = p by omega] at this
      rw [← hma]; exact_mod_cast this
    · rw [e]; exact Rat.le_refl
    · rw [← e]
      have h2 : dv (m * 2 ^ (p - bl m)) (x - (p - bl m : Nat)) < dv (m * 2 ^ (p - bl m) + 1) (x - (p - bl m : Nat)) := dv_lt.2 (by omega)
      have h3 : 0 ≤ dv (m * 2 ^ (p - bl m)) (x - (p - bl m : Nat)) := by rw [e]; exact dv_nonneg.2 h0
      generalize dv (m * 2 ^ (p - bl m)) (x - (p - bl m : Nat)) = a at *
      generalize dv (m * 2 ^ (p - bl m) + 1) (x - (p - bl m : Nat)) = b at *
      have h4 : a * a ≤ a * b := Rat.mul_le_mul_of_nonneg_left (Rat.le_of_lt h2) h3
      have h5 : b * a < b * b := Rat.mul_lt_mul_of_pos_left h2 (by grind)
      grind
    · rw [← e]; simp
theorem sqrt_exists {m x : Int} (h0 : 0 ≤ m) {p : Nat} (h1 : 1 ≤ p) (up : Bool) : ∃ M E, RsOf (dv m x) p up M E := by
  by_cases hm : m = 0
  · exact ⟨0, 0, .inl ⟨rfl, rfl⟩, .inl ⟨by rw [hm, dv_zero], rfl⟩⟩
  · obtain ⟨k, hk1, hk2⟩ : ∃ k : Nat, 2 * p ≤ k ∧ (x - k) % 2 = 0 := by
      by_cases hx : (x - (2 * p : Nat)) % 2 = 0
      · exact ⟨2 * p, Nat.le_refl _, hx⟩
      · exact ⟨2 * p + 1, by omega, by omega⟩
    exact ⟨_, _, (sqrt_kept (k := k) (h := (x - k) / 2) (more := decide (m.natAbs * 2 ^ k - rt (m.natAbs * 2 ^ k) * rt (m.natAbs * 2 ^ k) ≠ 0)) (up := up) (by omega) h1 (by omega) (by omega) rfl).2⟩
theorem RsOf.nonneg {X : Rat} {p : Nat} {up : Bool} {M E : Int} (h : RsOf X p up M E) : 0 ≤ M := by
  rcases h.2 with ⟨_, h0⟩ | ⟨s, t, ht, _, _, _, hv⟩
  · omega
  · have hp : (0 : Int) < 2 ^ (p - 1) := Int.pow_pos (by omega)
    have : 0 ≤ dv M E := by rw [hv]; exact dv_nonneg.2 (by split <;> omega)
    exact dv_nonneg.1 this
theorem RsOf.le {X : Rat} {p : Nat} {M E : Int} (h : RsOf X p false M E) : dv M E * dv M E ≤ X := by
  rcases h.2 with ⟨h1, h0⟩ | ⟨s, t, ht, _, h3, _, hv⟩
  · rw [h0, dv_zero, h1]; grind
  · rw [hv]; simpa using h3
theorem RsOf.ge {X : Rat} {p : Nat} {M E : Int} (h : RsOf X p true M E) : X ≤ dv M E * dv M E := by
  rcases h.2 with ⟨h1, h0⟩ | ⟨s, t, ht, _, h3, h4, hv⟩
  · rw [h0, dv_zero, h1]; grind
  · rw [hv]
    by_cases he : dv t s * dv t s = X
    · simp [he]
    · simp [he]; exact Rat.le_of_lt h4
theorem rsq_pow (k : Int) : (2 : Rat) ^ k * 2 ^ k = 2 ^ (2 * k) := by rw [← zpow_add2]; congr 1; omega
theorem Bd.root {L H m x M E : Int} {p : Nat} {up : Bool} (h1 : 1 ≤ p) (h : Bd L H m x) (hr : RsOf (dv m x) p up M E) (hL : L ≤ 0) (hH : 0 ≤ H) : Bd (L - p) (H + 3) M E := by
  refine ⟨hr.1, ?_⟩
  rcases hr.2 with ⟨_, h0⟩ | ⟨s, t, ht1, ht2, h3, h4, hv⟩
  · exact .inl h0
  · by_cases hM : M = 0
    · exact .inl hM
    · have hp1 : (2 : Int) ^ p = 2 ^ (p - 1) * 2 := by rw [← Int.pow_succ]; congr 1; omega
      have hpp : (0 : Int) < 2 ^ (p - 1) := Int.pow_pos (by omega)
      have hm : m ≠ 0 := by
        rintro rfl
        rw [dv_zero] at h3
        have : 0 < dv t s := dv_pos.2 (by omega)
        have := Rat.mul_pos this this
        grind
      have hb := h.size hm
      have hx : 0 ≤ dv m x := by
        refine Rat.le_trans ?_ h3
        have : 0 ≤ dv t s := dv_nonneg.2 (by omega)
        exact Rat.mul_nonneg this this
      rw [Rat.abs_of_nonneg hx] at hb
      -- the root's least bit
      have c1 : (2 : Rat) ^ (s + (p - 1 : Nat)) ≤ dv t s := by
        rw [← dv_two]; exact dv_le.2 (by exact_mod_cast ht1)
      have c2 : dv (t + 1) s ≤ 2 ^ (s + (p : Nat)) := by
        rw [← dv_two]; exact dv_le.2 (by have : t < 2 ^ p := by exact_mod_cast ht2
                                         exact_mod_cast this)
      have d1 : (2 : Rat) ^ (2 * (s + (p - 1 : Nat))) < 2 ^ H := by
        rw [← rsq_pow]
        exact rle_lt (Rat.le_trans (rsq_le (Rat.le_of_lt (zpow_pos _)) c1) h3) hb.2
      have d2 : (2 : Rat) ^ L < 2 ^ (2 * (s + (p : Nat))) := by
        rw [← rsq_pow]
        refine rle_lt hb.1 (rlt_le h4 (rsq_le (dv_nonneg.2 (by omega)) c2))
      have e1 := zpow_lt.1 d1
      have e2 := zpow_lt.1 d2
      have hT : (t + (if up && decide (dv t s * dv t s ≠ dv m x) then 1 else 0)).natAbs ≤ 2 ^ p := by
        have : (2 : Int) ^ p = ((2 ^ p : Nat) : Int) := by push_cast; rfl
        split <;> omega
      have hbt : bl (t + (if up && decide (dv t s * dv t s ≠ dv m x) then 1 else 0)) ≤ p + 1 := by
        unfold bl; exact blen_le (Nat.lt_of_le_of_lt hT (Nat.pow_lt_pow_right (by omega) (by omega)))
      have := (Bd.of (m := t + (if up && decide (dv t s * dv t s ≠ dv m x) then 1 else 0)) (e := s) (L := L - p) (H := H + 3) (by omega) (by omega) (M := M) (E := E) ⟨hr.1, hv⟩)
      exact this.2

set_option maxHeartbeats 4000000 in
set_option maxRecDepth 100000 in
theorem div_no (A B : Option Addr) (c d : Nat) (m n x y P Z : Int) (up : Bool) (w : World) (h : Dg w A c (digs m.natAbs)) (h' : Dg w B d (digs n.natAbs)) (hl : (digs m.natAbs).length ≤ 10000) (hl' : (digs n.natAbs).length ≤ 10000) (r1 : Rt m x) (r2 : Rt n y) (p2 : 2 ≤ P) (p4 : P ≤ 400) (n0 : n = 0) (hZ : Z = 0):
    Calls Tryd.prog 42 #[.agg #[.bool (decide (m < 0)), .slice A (digs m.natAbs).length c, .int .i64 x], .agg #[.bool (decide (n < 0)), .slice B (digs n.natAbs).length d, .int .i64 y], .int .i64 P, .bool up] w fun e w' => Ye Z Z 3 w e w' := by
  have HR1 := Lib.hid r1
  have HR2 := Lib.hid r2
  have lx := Lib.hid hl
  have ly := Lib.hid hl'
  have HPR := Lib.hid (precB_in p2 p4)
  have D2 := Lib.hid (show decide (n = 0) = true by simp [n0])
  have L0 := Lib.hid (((live_start w).add h).add h')
  clear h h' hl hl' r1 r2 n0 p2 p4
  go_enter Tryd.func42, Tryd.ntmps42
  go_wp2_with fail
  obtain ⟨v1, hW⟩ : ∃ W : World, W = ((((w.alloc (.cells #[.bool (decide (m < 0)), .slice A (digs m.natAbs).length c, .int .i64 x] 26)).alloc (.cells #[.bool (decide (n < 0)), .slice B (digs n.natAbs).length d, .int .i64 y] 26)).alloc (.cells #[.bool false, .slice none 0 0, .int .i64 0] 26)).alloc (.cells #[.bool (decide (m < 0)), .slice A (digs m.natAbs).length c, .int .i64 x, .bool (decide (n < 0)), .slice B (digs n.natAbs).length d, .int .i64 y] 26)) := ⟨_, rfl⟩
  rw [← hW]
  have hb : Below w.heap.size w v1 := by rw [hW]; exact (((((Below.refl _ _).alloc (by simp <;> omega) _).alloc (by simp <;> omega) _).alloc (by simp <;> omega) _).alloc (by simp <;> omega) _)
  have L1 := Lib.hid (L0.out.step hb)
  have Rx_1 := Lib.hid (show v1.heap[w.heap.size]? = some (.cells #[.bool (decide (m < 0)), .slice A (digs m.natAbs).length c, .int .i64 x] 26 (0, 0)) by rw [hW]; have := heap_alloc_new w (.cells #[.bool (decide (m < 0)), .slice A (digs m.natAbs).length c, .int .i64 x] 26); rw [heap_alloc_old _ _ (by simp <;> omega)]; rw [heap_alloc_old _ _ (by simp <;> omega)]; rw [heap_alloc_old _ _ (by simp <;> omega)]; simpa using this)
  have Gx : w.heap.size ≤ w.heap.size := by have := L0.out.1.size; omega
  have Ry_1 := Lib.hid (show v1.heap[w.heap.size + 1]? = some (.cells #[.bool (decide (n < 0)), .slice B (digs n.natAbs).length d, .int .i64 y] 26 (0, 0)) by rw [hW]; have := heap_alloc_new (w.alloc (.cells #[.bool (decide (m < 0)), .slice A (digs m.natAbs).length c, .int .i64 x] 26)) (.cells #[.bool (decide (n < 0)), .slice B (digs n.natAbs).length d, .int .i64 y] 26); rw [heap_alloc_old _ _ (by simp <;> omega)]; rw [heap_alloc_old _ _ (by simp <;> omega)]; simpa using this)
  have Gy : w.heap.size ≤ w.heap.size + 1 := by have := L0.out.1.size; omega
  have Nxy : w.heap.size < w.heap.size + 1 := by omega
  have Rr_1 := Lib.hid (show v1.heap[w.heap.size + 1 + 1]? = some (.cells #[.bool false, .slice none 0 0, .int .i64 0] 26 (0, 0)) by rw [hW]; have := heap_alloc_new ((w.alloc (.cells #[.bool (decide (m < 0)), .slice A (digs m.natAbs).length c, .int .i64 x] 26)).alloc (.cells #[.bool (decide (n < 0)), .slice B (digs n.natAbs).length d, .int .i64 y] 26)) (.cells #[.bool false, .slice none 0 0, .int .i64 0] 26); rw [heap_alloc_old _ _ (by simp <;> omega)]; simpa using this)
  have Gr : w.heap.size ≤ w.heap.size + 1 + 1 := by have := L0.out.1.size; omega
  have Nxr : w.heap.size < w.heap.size + 1 + 1 := by omega
  have Nyr : w.heap.size + 1 < w.heap.size + 1 + 1 := by omega
  have Rsl_1 := Lib.hid (show v1.heap[w.heap.size + 1 + 1 + 1]? = some (.cells #[.bool (decide (m < 0)), .slice A (digs m.natAbs).length c, .int .i64 x, .bool (decide (n < 0)), .slice B (digs n.natAbs).length d, .int .i64 y] 26 (0, 0)) by rw [hW]; have := heap_alloc_new (((w.alloc (.cells #[.bool (decide (m < 0)), .slice A (digs m.natAbs).length c, .int .i64 x] 26)).alloc (.cells #[.bool (decide (n < 0)), .slice B (digs n.natAbs).length d, .int .i64 y] 26)).alloc (.cells #[.bool false, .slice none 0 0, .int .i64 0] 26)) (.cells #[.bool (decide (m < 0)), .slice A (digs m.natAbs).length c, .int .i64 x, .bool (decide (n < 0)), .slice B (digs n.natAbs).length d, .int .i64 y] 26); simpa using this)
  have Gsl : w.heap.size ≤ w.heap.size + 1 + 1 + 1 := by have := L0.out.1.size; omega
  have Nxsl : w.heap.size < w.heap.size + 1 + 1 + 1 := by omega
  have Nysl : w.heap.size + 1 < w.heap.size + 1 + 1 + 1 := by omega
  have Nrsl : w.heap.size + 1 + 1 < w.heap.size + 1 + 1 + 1 := by omega
  clear hW hb
  refine (begin_2 Rsl_1.out (L1.out.get (A := A) (c := c) (xs := digs m.natAbs) (by simp)) (L1.out.get (A := B) (c := d) (xs := digs n.natAbs) (by simp)) (dyR_num HR1.out) (dyR_num HR2.out) (Nat.le_trans lx.out (by omega)) (Nat.le_trans ly.out (by omega)) (k := 0) rfl).mono ?_
  rintro e w2 ⟨rfl, hb⟩
  have L2 := Lib.hid (L1.out.step hb)
  have Rx_2 := Lib.hid (cells_of Rx_1.out hb)
  have Ry_2 := Lib.hid (cells_of Ry_1.out hb)
  have Rr_2 := Lib.hid (cells_of Rr_1.out hb)
  have Rsl_2 := Lib.hid (cells_of Rsl_1.out hb)
  clear hb 
  go_wp2_with fail
  obtain ⟨w3, hW⟩ : ∃ W : World, W = (w2.alloc (.cells #[.int .i64 0] 79)) := ⟨_, rfl⟩
  rw [← hW]
  have hb : Below w2.heap.size w2 w3 := by rw [hW]; exact ((Below.refl _ _).alloc (by simp <;> omega) _)
  have L3 := Lib.hid (L2.out.step hb)
  have Rx_3 := Lib.hid (cells_of Rx_2.out hb)
  have Ry_3 := Lib.hid (cells_of Ry_2.out hb)
  have Rr_3 := Lib.hid (cells_of Rr_2.out hb)
  have Rsl_3 := Lib.hid (cells_of Rsl_2.out hb)
  have Rk_3 := Lib.hid (show w3.heap[w2.heap.size]? = some (.cells #[.int .i64 0] 79 (0, 0)) by rw [hW]; have := heap_alloc_new w2 (.cells #[.int .i64 0] 79); simpa using this)
  have Gk : w.heap.size ≤ w2.heap.size := by have := L2.out.1.size; omega
  have Nxk : w.heap.size < w2.heap.size := by have := heap_lt Rx_2.out; omega
  have Nyk : w.heap.size + 1 < w2.heap.size := by have := heap_lt Ry_2.out; omega
  have Nrk : w.heap.size + 1 + 1 < w2.heap.size := by have := heap_lt Rr_2.out; omega
  have Nslk : w.heap.size + 1 + 1 + 1 < w2.heap.size := by have := heap_lt Rsl_2.out; omega
  clear hW hb
  refine (precision_no _ 0 P _ (row_c Rk_3.out (i := 0) rfl) (.inl HPR.out)).mono ?_
  rintro e w4 ⟨rfl, rfl⟩
  have fy0 := row_c (i := 0) Ry_3.out rfl
  have zy0 := frozen_of_row _ _ 0 _ _ Ry_3.out
  have fy1 := row_c (i := 1) Ry_3.out rfl
  have zy1 := frozen_of_row _ _ 1 _ _ Ry_3.out
  have fy2 := row_c (i := 2) Ry_3.out rfl
  have zy2 := frozen_of_row _ _ 2 _ _ Ry_3.out
  have xy := heap_lt Ry_3.out
  go_wp2_with fail
  refine (isz_d (x := y) D2.out).mono ?_
  rintro e w5 ⟨rfl, hb⟩
  have L5 := Lib.hid (L3.out.step hb)
  clear fy0 zy0 fy1 zy1 fy2 zy2 xy
  have Rx_5 := Lib.hid (cells_of Rx_3.out hb)
  have Ry_5 := Lib.hid (cells_of Ry_3.out hb)
  have Rr_5 := Lib.hid (cells_of Rr_3.out hb)
  have Rsl_5 := Lib.hid (cells_of Rsl_3.out hb)
  have Rk_5 := Lib.hid (cells_of Rk_3.out hb)
  clear hb 
  go_wp2_with fail
  refine (tell_yes _ 3 _ (row_c Rk_5.out (i := 0) rfl) (frozen_of_row _ _ 0 _ _ Rk_5.out)).mono ?_
  rintro e w6 ⟨rfl, rfl⟩
  obtain ⟨w7, hW⟩ : ∃ W : World, W = (w5.setCell ⟨w2.heap.size, 0, none⟩ (.int .i64 3)) := ⟨_, rfl⟩
  rw [← hW]
  have hO : Only (w2.heap.size) w5 w7 := by rw [hW]; exact ((Only.refl (w2.heap.size) w5).setCell 0 _)
  have L7 := Lib.hid (live_only L5.out hO Rk_5.out noint_re Gk)
  have Rx_7 := Lib.hid ((hO.block _ (by omega)).trans Rx_5.out)
  have Ry_7 := Lib.hid ((hO.block _ (by omega)).trans Ry_5.out)
  have Rr_7 := Lib.hid ((hO.block _ (by omega)).trans Rr_5.out)
  have Rsl_7 := Lib.hid ((hO.block _ (by omega)).trans Rsl_5.out)
  have Rk_7 := Lib.hid (show w7.heap[w2.heap.size]? = some (.cells #[.int .i64 3] 79 (0, 0)) by rw [hW]; exact (heap_setCell_same _ _ 0 _ _ _ Rk_5.out))
  clear hW hO
  go_wp2_with fail
  refine (fails_any _ 3 true _ (row_c Rk_7.out (i := 0) rfl) rfl).mono ?_
  rintro e w8 ⟨rfl, rfl⟩
  go_wp2_with fail
  refine (none_any _ 3 _ (row_c Rk_7.out (i := 0) rfl) (heap_lt Rk_7.out)).mono ?_
  rintro e w9 ⟨rfl, hb⟩
  have L9 := Lib.hid (L7.out.step hb)
  have Rx_9 := Lib.hid (cells_of Rx_7.out hb)
  have Ry_9 := Lib.hid (cells_of Ry_7.out hb)
  have Rr_9 := Lib.hid (cells_of Rr_7.out hb)
  have Rsl_9 := Lib.hid (cells_of Rsl_7.out hb)
  have Rk_9 := Lib.hid (cells_of Rk_7.out hb)
  clear hb 
  have fr0 := row_c (i := 0) Rr_9.out rfl
  have zr0 := frozen_of_row _ _ 0 _ _ Rr_9.out
  have fr1 := row_c (i := 1) Rr_9.out rfl
  have zr1 := frozen_of_row _ _ 1 _ _ Rr_9.out
  have fr2 := row_c (i := 2) Rr_9.out rfl
  have zr2 := frozen_of_row _ _ 2 _ _ Rr_9.out
  have xr := heap_lt Rr_9.out
  go_wp2
  refine bodyPost_ret (v := .tuple #[.agg #[.bool false, .slice none 0 0, .int .i64 0], .int .i64 3]) (by simp [results, Tryd.results42, go_sem, fr0, fr1, fr2]) rfl ?_
  
  subst hZ
  exact zero_ye (fin3 L9.out Rr_9.out noint3 Gr).1

set_option maxHeartbeats 4000000 in
set_option maxRecDepth 100000 in
theorem sqrt_no (A : Option Addr) (c : Nat) (m x P Z : Int) (up : Bool) (w : World) (h : Dg w A c (digs m.natAbs)) (hl : (digs m.natAbs).length ≤ 10000) (r1 : Rt m x) (p2 : 2 ≤ P) (p4 : P ≤ 400) (m0 : m < 0) (hZ : Z = 0):
    Calls Tryd.prog 44 #[.agg #[.bool (decide (m < 0)), .slice A (digs m.natAbs).length c, .int .i64 x], .int .i64 P, .bool up] w fun e w' => Ye Z Z 3 w e w' := by
  have HR1 := Lib.hid r1
  have lx := Lib.hid hl
  have HPR := Lib.hid (precB_in p2 p4)
  have dneg : decide (m < 0) = true := by simpa using m0
  have HNEG := Lib.hid dneg
  have L0 := Lib.hid ((live_start w).add h)
  clear h hl r1 m0 p2 p4 dneg
  go_enter Tryd.func44, Tryd.ntmps44
  go_wp2_with fail
  obtain ⟨v1, hW⟩ : ∃ W : World, W = (((w.alloc (.cells #[.bool (decide (m < 0)), .slice A (digs m.natAbs).length c, .int .i64 x] 26)).alloc (.cells #[.bool false, .slice none 0 0, .int .i64 0] 26)).alloc (.cells #[.bool (decide (m < 0)), .slice A (digs m.natAbs).length c, .int .i64 x] 26)) := ⟨_, rfl⟩
  rw [← hW]
  have hb : Below w.heap.size w v1 := by rw [hW]; exact ((((Below.refl _ _).alloc (by simp <;> omega) _).alloc (by simp <;> omega) _).alloc (by simp <;> omega) _)
  have L1 := Lib.hid (L0.out.step hb)
  have Rx_1 := Lib.hid (show v1.heap[w.heap.size]? = some (.cells #[.bool (decide (m < 0)), .slice A (digs m.natAbs).length c, .int .i64 x] 26 (0, 0)) by rw [hW]; have := heap_alloc_new w (.cells #[.bool (decide (m < 0)), .slice A (digs m.natAbs).length c, .int .i64 x] 26); rw [heap_alloc_old _ _ (by simp <;> omega)]; rw [heap_alloc_old _ _ (by simp <;> omega)]; simpa using this)
  have Gx : w.heap.size ≤ w.heap.size := by have := L0.out.1.size; omega
  have Rr_1 := Lib.hid (show v1.heap[w.heap.size + 1]? = some (.cells #[.bool false, .slice none 0 0, .int .i64 0] 26 (0, 0)) by rw [hW]; have := heap_alloc_new (w.alloc (.cells #[.bool (decide (m < 0)), .slice A (digs m.natAbs).length c, .int .i64 x] 26)) (.cells #[.bool false, .slice none 0 0, .int .i64 0] 26); rw [heap_alloc_old _ _ (by simp <;> omega)]; simpa using this)
  have Gr : w.heap.size ≤ w.heap.size + 1 := by have := L0.out.1.size; omega
  have Nxr : w.heap.size < w.heap.size + 1 := by omega
  have Rsl_1 := Lib.hid (show v1.heap[w.heap.size + 1 + 1]? = some (.cells #[.bool (decide (m < 0)), .slice A (digs m.natAbs).length c, .int .i64 x] 26 (0, 0)) by rw [hW]; have := heap_alloc_new ((w.alloc (.cells #[.bool (decide (m < 0)), .slice A (digs m.natAbs).length c, .int .i64 x] 26)).alloc (.cells #[.bool false, .slice none 0 0, .int .i64 0] 26)) (.cells #[.bool (decide (m < 0)), .slice A (digs m.natAbs).length c, .int .i64 x] 26); simpa using this)
  have Gsl : w.heap.size ≤ w.heap.size + 1 + 1 := by have := L0.out.1.size; omega
  have Nxsl : w.heap.size < w.heap.size + 1 + 1 := by omega
  have Nrsl : w.heap.size + 1 < w.heap.size + 1 + 1 := by omega
  clear hW hb
  refine (begin_1 Rsl_1.out (L1.out.get (A := A) (c := c) (xs := digs m.natAbs) (by simp)) (dyR_num HR1.out) (Nat.le_trans lx.out (by omega)) (k := 0) rfl).mono ?_
  rintro e w2 ⟨rfl, hb⟩
  have L2 := Lib.hid (L1.out.step hb)
  have Rx_2 := Lib.hid (cells_of Rx_1.out hb)
  have Rr_2 := Lib.hid (cells_of Rr_1.out hb)
  have Rsl_2 := Lib.hid (cells_of Rsl_1.out hb)
  clear hb 
  go_wp2_with fail
  obtain ⟨w3, hW⟩ : ∃ W : World, W = (w2.alloc (.cells #[.int .i64 0] 79)) := ⟨_, rfl⟩
  rw [← hW]
  have hb : Below w2.heap.size w2 w3 := by rw [hW]; exact ((Below.refl _ _).alloc (by simp <;> omega) _)
  have L3 := Lib.hid (L2.out.step hb)
  have Rx_3 := Lib.hid (cells_of Rx_2.out hb)
  have Rr_3 := Lib.hid (cells_of Rr_2.out hb)
  have Rsl_3 := Lib.hid (cells_of Rsl_2.out hb)
  have Rk_3 := Lib.hid (show w3.heap[w2.heap.size]? = some (.cells #[.int .i64 0] 79 (0, 0)) by rw [hW]; have := heap_alloc_new w2 (.cells #[.int .i64 0] 79); simpa using this)
  have Gk : w.heap.size ≤ w2.heap.size := by have := L2.out.1.size; omega
  have Nxk : w.heap.size < w2.heap.size := by have := heap_lt Rx_2.out; omega
  have Nrk : w.heap.size + 1 < w2.heap.size := by have := heap_lt Rr_2.out; omega
  have Nslk : w.heap.size + 1 + 1 < w2.heap.size := by have := heap_lt Rsl_2.out; omega
  clear hW hb
  refine (precision_no _ 0 P _ (row_c Rk_3.out (i := 0) rfl) (.inl HPR.out)).mono ?_
  rintro e w4 ⟨rfl, rfl⟩
  have dneg := HNEG.out
  have fx0 := row_c (i := 0) Rx_3.out rfl
  have zx0 := frozen_of_row _ _ 0 _ _ Rx_3.out
  have fx1 := row_c (i := 1) Rx_3.out rfl
  have zx1 := frozen_of_row _ _ 1 _ _ Rx_3.out
  have fx2 := row_c (i := 2) Rx_3.out rfl
  have zx2 := frozen_of_row _ _ 2 _ _ Rx_3.out
  have xx := heap_lt Rx_3.out
  go_wp2_with fail
  refine (tell_yes _ 3 _ (row_c Rk_3.out (i := 0) rfl) (frozen_of_row _ _ 0 _ _ Rk_3.out)).mono ?_
  rintro e w5 ⟨rfl, rfl⟩
  clear dneg
  obtain ⟨w6, hW⟩ : ∃ W : World, W = (w3.setCell ⟨w2.heap.size, 0, none⟩ (.int .i64 3)) := ⟨_, rfl⟩
  rw [← hW]
  have hO : Only (w2.heap.size) w3 w6 := by rw [hW]; exact ((Only.refl (w2.heap.size) w3).setCell 0 _)
  have L6 := Lib.hid (live_only L3.out hO Rk_3.out noint_re Gk)
  have Rx_6 := Lib.hid ((hO.block _ (by omega)).trans Rx_3.out)
  have Rr_6 := Lib.hid ((hO.block _ (by omega)).trans Rr_3.out)
  have Rsl_6 := Lib.hid ((hO.block _ (by omega)).trans Rsl_3.out)
  have Rk_6 := Lib.hid (show w6.heap[w2.heap.size]? = some (.cells #[.int .i64 3] 79 (0, 0)) by rw [hW]; exact (heap_setCell_same _ _ 0 _ _ _ Rk_3.out))
  clear hW hO
  clear fx0 zx0 fx1 zx1 fx2 zx2 xx
  go_wp2_with fail
  refine (fails_any _ 3 true _ (row_c Rk_6.out (i := 0) rfl) rfl).mono ?_
  rintro e w7 ⟨rfl, rfl⟩
  go_wp2_with fail
  refine (none_any _ 3 _ (row_c Rk_6.out (i := 0) rfl) (heap_lt Rk_6.out)).mono ?_
  rintro e w8 ⟨rfl, hb⟩
  have L8 := Lib.hid (L6.out.step hb)
  have Rx_8 := Lib.hid (cells_of Rx_6.out hb)
  have Rr_8 := Lib.hid (cells_of Rr_6.out hb)
  have Rsl_8 := Lib.hid (cells_of Rsl_6.out hb)
  have Rk_8 := Lib.hid (cells_of Rk_6.out hb)
  clear hb 
  have fr0 := row_c (i := 0) Rr_8.out rfl
  have zr0 := frozen_of_row _ _ 0 _ _ Rr_8.out
  have fr1 := row_c (i := 1) Rr_8.out rfl
  have zr1 := frozen_of_row _ _ 1 _ _ Rr_8.out
  have fr2 := row_c (i := 2) Rr_8.out rfl
  have zr2 := frozen_of_row _ _ 2 _ _ Rr_8.out
  have xr := heap_lt Rr_8.out
  go_wp2
  refine bodyPost_ret (v := .tuple #[.agg #[.bool false, .slice none 0 0, .int .i64 0], .int .i64 3]) (by simp [results, Tryd.results44, go_sem, fr0, fr1, fr2]) rfl ?_
  
  subst hZ
  exact zero_ye (fin3 L8.out Rr_8.out noint3 Gr).1

theorem dcmp0 {A : Option Addr} {c : Nat} {m x q : Int} {w : World} (h : Dg w A c (digs m.natAbs)) (hl : (digs m.natAbs).length ≤ 400000) (r1 : Rt m x) (hq : cmpd (dv m x) 0 = q) :
    Calls Tryd.prog 28 #[.agg #[.bool (decide (m < 0)), .slice A (digs m.natAbs).length c, .int .i64 x], .agg #[.bool false, .slice none 0 0, .int .i64 0]] w fun e w' => e = .returned (.int .i64 q) ∧ Below w.heap.size w w' := by
  have e : digs (0 : Int).natAbs = [] := digs_zero
  have := dcmp_any (n := 0) (y := 0) (B := none) (d := 0) h (by rw [e]; exact Dg.nil_ _ _) hl (by rw [e]; simp) r1 ⟨.inl ⟨rfl, rfl⟩, by omega, by omega⟩ (q := q) (by rw [dv_zero]; exact hq)
  rw [e] at this
  exact this
end Go.Proofs.YtnfafgpnnpapdaaDoor
end

section
/-
  dyad.Half.
-/
namespace Go.Proofs.YtnfafgpnnpapdaaDoor
open Go.RowKit
set_option linter.unusedSimpArgs false
set_option linter.unusedVariables false
set_option maxHeartbeats 4000000 in
set_option maxRecDepth 100000 in
theorem half_u (x u : Int) (w : World) (hT : T32 w) (h0 : -65537 ≤ x) (h1 : x ≤ 65535) (hu : u = 1):
    Calls Tryd.prog 22 #[.int .i64 x] w fun e w' => Yr u x w e w' := by
  have FR : ∀ W, Calls Tryd.prog 50 #[.int .i64 1] W fun e w' => Zr u W e w' := fun W => by subst hu; exact zfrom_any 1 W (by omega) (by omega)
  have FR := Lib.hid FR
  have LN := Lib.hid (show (digs u.natAbs).length ≤ 2 from digs_small (by omega))
  have hI : inR u x = true := by
    subst hu
    have e : bl 1 = 1 := by decide +kernel
    unfold inR
    rw [decide_eq_true_eq, e]
    right
    omega
  have MY := Lib.hid (fun W A c (hW : Dg W A c (digs u.natAbs)) hT => make_yes A c (decide (u < 0)) (digs u.natAbs) x u x W hW (Nat.le_trans LN.out (by omega)) hT (by omega) (by omega) (by rw [sg_dz, hu]; exact (nm_odd rfl).1) (by rw [sg_dz, hu]; exact (nm_odd rfl).2 x) hI)
  have HT := Lib.hid hT
  clear hT
  have L0 := Lib.hid (live_start w)
  clear hu h0 h1 hI
  go_enter Tryd.func22, Tryd.ntmps22
  go_wp2_with fail
  obtain ⟨v1, hW⟩ : ∃ W : World, W = (w.alloc (.cells #[.bool false, .slice none 0 0, .int .i64 0] 26)) := ⟨_, rfl⟩
  rw [← hW]
  have hb : Below w.heap.size w v1 := by rw [hW]; exact ((Below.refl _ _).alloc (by simp <;> omega) _)
  have L1 := Lib.hid (L0.out.step hb)
  have Rr_1 := Lib.hid (show v1.heap[w.heap.size]? = some (.cells #[.bool false, .slice none 0 0, .int .i64 0] 26 (0, 0)) by rw [hW]; have := heap_alloc_new w (.cells #[.bool false, .slice none 0 0, .int .i64 0] 26); simpa using this)
  have Gr : w.heap.size ≤ w.heap.size := by have := L0.out.1.size; omega
  clear hW hb
  refine (FR.out _).mono ?_
  rintro e w2 ⟨A2, c2, rfl, hd, hb⟩
  have L2 := Lib.hid ((L1.out.step hb).add hd)
  have Rr_2 := Lib.hid (cells_of Rr_1.out hb)
  clear hb hd
  go_wp2_with fail
  refine (MY.out _ A2 c2 (L2.out.get (A := A2) (c := c2) (xs := digs u.natAbs) (by simp)) (t32_live HT.out L2.out)).mono ?_
  rintro e w3 ⟨A3, c3, rfl, hd, hb⟩
  have L3 := Lib.hid ((L2.out.step hb).add hd)
  have Rr_3 := Lib.hid (cells_of Rr_2.out hb)
  clear hb hd
  have fr0 := row_c (i := 0) Rr_3.out rfl
  have zr0 := frozen_of_row _ _ 0 _ _ Rr_3.out
  have fr1 := row_c (i := 1) Rr_3.out rfl
  have zr1 := frozen_of_row _ _ 1 _ _ Rr_3.out
  have fr2 := row_c (i := 2) Rr_3.out rfl
  have zr2 := frozen_of_row _ _ 2 _ _ Rr_3.out
  have xr := heap_lt Rr_3.out
  go_wp2
  have al : ∀ (V : World) (o : Obj) (i : Nat), w.heap.size < V.heap.size → (V.alloc o).cell? ⟨w.heap.size, i, none⟩ = V.cell? ⟨w.heap.size, i, none⟩ := fun V o i h => (below1 V o).cell (p := ⟨_, i, none⟩) h
  refine bodyPost_ret (v := .agg #[.bool (decide (u < 0)), .slice A3 (digs u.natAbs).length c3, .int .i64 x]) (by simp [results, Tryd.results22, go_sem, al, xr, fr0, fr1, fr2]) rfl ?_
  refine ⟨A3, c3, rfl, ?_, ?_⟩
  · exact ((fin3 L3.out Rr_3.out noint3 Gr).step (below1 _ _)).get (A := A3) (c := c3) (xs := digs u.natAbs) (by simp)
  · exact ((fin3 L3.out Rr_3.out noint3 Gr).step (below1 _ _)).1
end Go.Proofs.YtnfafgpnnpapdaaDoor
end

section
/-
  Operations under a guard, in a region whose operands come in whatever order.
-/
namespace Go.Proofs.YtnfafgpnnpapdaaDoor
open Go.RowKit
theorem ite_yes {c : Prop} [Decidable c] {a b : Prop} (hc : c) (ha : a) : if c then a else b := by rw [if_pos hc]; exact ha
theorem ite_not {c : Prop} [Decidable c] {a b : Prop} (hc : ¬ c) (hb : b) : if c then a else b := by rw [if_neg hc]; exact hb
theorem yielded_of {ops : Array Oper} {tmps : Array Value} {j : Nat} {t : Tmp} {b : Bool} (h1 : (ops[j]?).bind (·.dst) = some t) (h2 : tmps.getD t undef = .bool b) : yielded ops tmps j = some b := by
  unfold yielded
  rw [h1]
  simp only [Option.bind_some]
  rcases h : tmps[t]? with _ | v
  · rw [Array.getD_eq_getD_getElem?, h] at h2; cases h2
  · rw [Array.getD_eq_getD_getElem?, h] at h2
    simp only [Option.getD_some] at h2
    rw [h2]
theorem yielded_none {ops : Array Oper} {tmps : Array Value} {j : Nat} {t : Tmp} (h1 : (ops[j]?).bind (·.dst) = some t) (h2 : tmps.getD t undef = undef) : yielded ops tmps j = none := by
  unfold yielded
  rw [h1]
  simp only [Option.bind_some]
  rcases h : tmps[t]? with _ | v
  · rfl
  · rw [Array.getD_eq_getD_getElem?, h] at h2
    simp only [Option.getD_some] at h2
    rw [h2]; rfl
theorem wanted_none {o : Oper} {f : Nat → Option Bool} {j : Nat} {b : Bool} (hg : o.guard = some (j, b)) (hf : f j = none) : ¬ Region.wanted o f = true := by
  simp [Region.wanted, hg, hf]
theorem wanted_yes {o : Oper} {f : Nat → Option Bool} {j : Nat} {b : Bool} (hg : o.guard = some (j, b)) (hf : f j = some b) : Region.wanted o f = true := by
  simp [Region.wanted, hg, hf]
theorem wanted_not {o : Oper} {f : Nat → Option Bool} {j : Nat} {b : Bool} (hg : o.guard = some (j, b)) (hf : f j = some (!b)) : ¬ Region.wanted o f = true := by
  cases b <;> simp [Region.wanted, hg, hf]
end Go.Proofs.YtnfafgpnnpapdaaDoor
end

section
/-
  zint.Shift.
-/
namespace Go.Proofs.YtnfafgpnnpapdaaDoor
open Go.RowKit
/-- A whole number, and true. -/
def Zb (q : Int) (w : World) (e : Ending) (w' : World) : Prop := ∃ A c, e = .returned (.tuple #[.agg #[.bool (decide (q < 0)), .slice A (digs q.natAbs).length c], .bool true]) ∧ Dg w' A c (digs q.natAbs) ∧ Below w.heap.size w w'
theorem zb_give {w w' : World} {A : Option Addr} {c m : Nat} {t : Bool} {q : Int} (hq : sg t m = q) (hd : Dg w' A c (digs m)) (hb : Below w.heap.size w w') :
    Zb q w (.returned (.tuple #[.agg #[.bool (t && decide (m ≠ 0)), .slice A (digs m).length c], .bool true])) w' := by
  have e1 := sg_neg t m
  have e2 := sg_abs t m
  rw [hq] at e1 e2
  rw [e1]
  subst e2
  exact ⟨A, c, rfl, hd, hb⟩
theorem sg_up (t : Bool) (x k : Nat) : sg t (x * 2 ^ k) = sg t x * 2 ^ k := by
  unfold sg; cases t <;> simp [Int.neg_mul]
theorem sg_dn_pos (x k : Nat) : sg false (x / 2 ^ k) = sg false x / 2 ^ k := by
  unfold sg; simp
theorem sg_dn_whole {x k : Nat} (h : x = x / 2 ^ k * 2 ^ k) : sg true (x / 2 ^ k) = sg true x / 2 ^ k := by
  have hp : (0 : Int) < 2 ^ k := Int.pow_pos (by omega)
  have hne : (2 : Int) ^ k ≠ 0 := by omega
  unfold sg
  simp only [if_true]
  generalize x / 2 ^ k = m at *
  subst h
  have e : -((m * 2 ^ k : Nat) : Int) = (-(m : Int)) * 2 ^ k := by push_cast; rw [Int.neg_mul]
  rw [e, Int.mul_ediv_cancel _ hne]
theorem sg_dn_more {x k : Nat} (h : x ≠ x / 2 ^ k * 2 ^ k) : sg true (x / 2 ^ k + 1) = sg true x / 2 ^ k := by
  have hp : 0 < 2 ^ k := Nat.pow_pos (by omega)
  have h1 := Nat.div_add_mod x (2 ^ k)
  have h2 := Nat.mod_lt x hp
  have e2 : ((2 ^ k : Nat) : Int) = 2 ^ k := by push_cast; rfl
  unfold sg
  simp only [if_true]
  rw [← e2]
  generalize 2 ^ k = P at *
  generalize x / P = m at *
  generalize x % P = r at *
  subst h1
  have hr : r ≠ 0 := by intro e; apply h; rw [e, Nat.mul_comm]; rfl
  have e : -((P * m + r : Nat) : Int) = ((P : Int) - r) + (P : Int) * (-(m : Int) - 1) := by
    push_cast
    have e3 : (P : Int) * (-(m : Int) - 1) = -((P : Int) * m) - P := by
      rw [Int.mul_sub, Int.mul_neg, Int.mul_one]
    rw [e3]; omega
  rw [e, Int.add_mul_ediv_left _ _ (by omega), Int.ediv_eq_zero_of_lt (by omega) (by omega)]
  push_cast; omega
set_option maxHeartbeats 4000000 in
set_option maxRecDepth 100000 in
theorem zshift_no (A : Option Addr) (c : Nat) (s : Bool) (xs : List Nat) (n : Int) (w : World) (hn : n < -100000 ∨ 100000 < n) :
    Calls Tryd.prog 93 #[.agg #[.bool s, .slice A xs.length c], .int .i64 n] w fun e w' => e = .returned (.tuple #[.agg #[.bool false, .slice none 0 0], .bool false]) ∧ Below w.heap.size w w' := by
  by_cases h0 : n < -100000
  · have d0 : decide (n < -100000) = true := by simp [h0]
    go_enter Tryd.func93, Tryd.ntmps93
    go_wp2
    refine bodyPost_ret (v := .tuple #[.agg #[.bool false, .slice none 0 0], .bool false]) (by simp [results, Tryd.results93, go_sem]) rfl ⟨rfl, ?_⟩
    exact below2 w _ _
  · have d0 : decide (n < -100000) = false := by simp; omega
    have d1 : decide (100000 < n) = true := by simp; omega
    go_enter Tryd.func93, Tryd.ntmps93
    go_wp2
    refine bodyPost_ret (v := .tuple #[.agg #[.bool false, .slice none 0 0], .bool false]) (by simp [results, Tryd.results93, go_sem]) rfl ⟨rfl, ?_⟩
    exact below2 w _ _
set_option maxHeartbeats 4000000 in
set_option maxRecDepth 100000 in
theorem zshift_up (A : Option Addr) (c : Nat) (s : Bool) (xs : List Nat) (k : Nat) (w : World) (h : Dg w A c xs) (hl : xs.length ≤ 1000000) (hk : k ≤ 100000) :
    Calls Tryd.prog 93 #[.agg #[.bool s, .slice A xs.length c], .int .i64 (k : Int)] w fun e w' => Zb (sg s (val xs) * 2 ^ k) w e w' := by
  have l1 := digs_len_le h.2.1
  have TA := Lib.hid (fun W h => take_any A c s xs W h (by omega))
  have E1 := Lib.hid (sg_take s (val xs))
  obtain ⟨t1, ht1⟩ : ∃ t, (s && decide (0 < val xs)) = t := ⟨_, rfl⟩
  rw [ht1] at TA E1
  clear ht1
  obtain ⟨Z, hZ⟩ : ∃ Z, sg s (val xs) = Z := ⟨_, rfl⟩
  rw [hZ] at E1
  rw [hZ]
  clear hZ
  obtain ⟨x, hx⟩ : ∃ x, val xs = x := ⟨_, rfl⟩
  rw [hx] at TA E1 l1
  clear hx
  have d0 : decide ((k : Int) < -100000) = false := decide_eq_false (by omega)
  have d1 : decide ((100000 : Int) < (k : Int)) = false := decide_eq_false (by omega)
  have d2 : decide ((0 : Int) ≤ (k : Int)) = true := by simp
  have b1 : (digs (x * 2 ^ k)).length ≤ (digs x).length + 3126 := by have := digs_shl_len x k; omega
  have SH := Lib.hid (fun A1 c1 W h => shl_any A1 c1 (digs x) k W h (by omega) hk)
  simp only [val_digs] at SH
  clear hk
  go_enter Tryd.func93, Tryd.ntmps93
  go_upto_region 3 with fail
  have HB0 := Lib.hid (below2 w (.cells #[.bool s, .slice A xs.length c] 24) (.cells #[.bool false, .slice none 0 0] 24))
  obtain ⟨W, hW⟩ : ∃ W : World, W = (w.alloc (.cells #[.bool s, .slice A xs.length c] 24)).alloc (.cells #[.bool false, .slice none 0 0] 24) := ⟨_, rfl⟩
  have f1 : W.cell? ⟨w.heap.size, 0, none⟩ = some (.bool s) := by rw [hW]; go_simp
  have f2 : W.cell? ⟨w.heap.size, 1, none⟩ = some (.slice A xs.length c) := by rw [hW]; go_simp
  have HR0 := Lib.hid (show W.heap[w.heap.size + 1]? = some (.cells #[.bool false, .slice none 0 0] 24 (0, 0)) by rw [hW]; have := heap_alloc_new (w.alloc (.cells #[.bool s, .slice A xs.length c] 24)) (.cells #[.bool false, .slice none 0 0] 24); simpa using this)
  rw [← hW] at HB0
  rw [← hW]
  have H1 := Lib.hid (h.below HB0.out)
  have hsz : W.heap.size = w.heap.size + 2 := by rw [hW]; simp
  clear hW h
  go_wp2_with fail
  refine (TA.out _ H1.out).mono ?_
  rintro e w1 ⟨A1, c1, rfl, hd, hb⟩
  have K1 := Lib.hid hb
  have G1 := Lib.hid hd
  have z1 := hb.size
  clear hb hd f1 f2 TA
  go_wp2_with fail
  refine (SH.out A1 c1 _ (G1.out.below (below1 _ _))).mono ?_
  rintro e w2 ⟨A2, c2, rfl, hd, hb⟩
  have K2 := Lib.hid (K1.out.trans (((below1 _ _).trans (hb.mono (by simp))).mono K1.out.size))
  have RX := Lib.hid (cells_of (heap_alloc_new w1 (.cells #[.slice A1 (digs x).length c1, .bool t1] 99)) hb)
  have G2 := Lib.hid hd
  have z2 := heap_lt RX.out
  have f1 := cell_of_row w2 _ 1 _ _ _ RX.out
  simp only [List.getElem?_toArray, List.getElem?_cons_zero, List.getElem?_cons_succ] at f1
  clear hb hd SH
  go_wp2_with fail
  refine (give_any A2 c2 (x * 2 ^ k) t1 _ G2.out (by omega)).mono ?_
  rintro e v9 ⟨A9, c9, rfl, hd, hb⟩
  have KA := Lib.hid (K2.out.trans (hb.mono K2.out.size))
  have G9 := Lib.hid hd
  have HO := Lib.hid (off_row (g := w.heap.size + 1) hd KA.out HR0.out noint2')
  have q0 := row_cell HR0.out KA.out 0
  have q1 := row_cell HR0.out KA.out 1
  have p0 := row_frozen HR0.out KA.out 0
  have p1 := row_frozen HR0.out KA.out 1
  simp only [List.getElem?_toArray, List.getElem?_cons_zero, List.getElem?_cons_succ] at q0 q1
  clear hb hd
  go_wp2
  refine bodyPost_ret (v := .tuple #[.agg #[.bool (t1 && decide ((x * 2 ^ k) ≠ 0)), .slice A9 (digs (x * 2 ^ k)).length c9], .bool true]) (by simp [results, Tryd.results93, go_sem, q0, q1]) rfl ?_
  exact zb_give (by rw [sg_up, E1.out]) ((G9.out.set_off HO.out _ _).set_off HO.out _ _) ((((HB0.out.trans (KA.out.mono HB0.out.size)).setCell (by simp <;> omega) _).setCell (by simp <;> omega) _))
end Go.Proofs.YtnfafgpnnpapdaaDoor
end

section
/-
  zint.Shift, downwards.
-/
namespace Go.Proofs.YtnfafgpnnpapdaaDoor
open Go.RowKit
set_option maxHeartbeats 4000000 in
set_option maxRecDepth 100000 in
theorem zshift_down (A : Option Addr) (c : Nat) (s : Bool) (xs : List Nat) (k : Nat) (n : Int) (w : World) (h : Dg w A c xs) (hl : xs.length ≤ 1000000) (h0 : 0 < k) (hk : k ≤ 100000) (hn : n = -(k : Int)) :
    Calls Tryd.prog 93 #[.agg #[.bool s, .slice A xs.length c], .int .i64 n] w fun e w' => Zb (sg s (val xs) / 2 ^ k) w e w' := by
  have l1 := digs_len_le h.2.1
  have TA := Lib.hid (fun W h => take_any A c s xs W h (by omega))
  have E1 := Lib.hid (sg_take s (val xs))
  obtain ⟨t1, ht1⟩ : ∃ t, (s && decide (0 < val xs)) = t := ⟨_, rfl⟩
  rw [ht1] at TA E1
  clear ht1
  obtain ⟨Z, hZ⟩ : ∃ Z, sg s (val xs) = Z := ⟨_, rfl⟩
  rw [hZ] at E1
  rw [hZ]
  clear hZ
  obtain ⟨x, hx⟩ : ∃ x, val xs = x := ⟨_, rfl⟩
  rw [hx] at TA E1 l1
  clear hx
  have d0 : decide (n < -100000) = false := decide_eq_false (by omega)
  have d1 : decide (100000 < n) = false := decide_eq_false (by omega)
  have d2 : decide (0 ≤ n) = false := decide_eq_false (by omega)
  have b1 := digs_len_mono _ _ (Nat.div_le_self x (2 ^ k))
  have b2 : (digs (x / 2 ^ k * 2 ^ k)).length ≤ (digs (x / 2 ^ k)).length + 3126 := by have := digs_shl_len (x / 2 ^ k) k; omega
  have SR := Lib.hid (fun A1 c1 W h => shr_any A1 c1 (digs x) k W h (by omega) (by omega))
  simp only [val_digs] at SR
  have SL := Lib.hid (fun A1 c1 W h => shl_any A1 c1 (digs (x / 2 ^ k)) k W h (by omega) hk)
  simp only [val_digs] at SL
  have HKB := Lib.hid (And.intro h0 hk)
  have nn : -n = (k : Int) := by omega
  have n0 : -100000 ≤ n := by omega
  have n1 : n < 0 := by omega
  clear h0 hk hn
  go_enter Tryd.func93, Tryd.ntmps93
  go_upto_region 3 with fail
  have HB0 := Lib.hid (below2 w (.cells #[.bool s, .slice A xs.length c] 24) (.cells #[.bool false, .slice none 0 0] 24))
  obtain ⟨W, hW⟩ : ∃ W : World, W = (w.alloc (.cells #[.bool s, .slice A xs.length c] 24)).alloc (.cells #[.bool false, .slice none 0 0] 24) := ⟨_, rfl⟩
  have f1 : W.cell? ⟨w.heap.size, 0, none⟩ = some (.bool s) := by rw [hW]; go_simp
  have f2 : W.cell? ⟨w.heap.size, 1, none⟩ = some (.slice A xs.length c) := by rw [hW]; go_simp
  have HR0 := Lib.hid (show W.heap[w.heap.size + 1]? = some (.cells #[.bool false, .slice none 0 0] 24 (0, 0)) by rw [hW]; have := heap_alloc_new (w.alloc (.cells #[.bool s, .slice A xs.length c] 24)) (.cells #[.bool false, .slice none 0 0] 24); simpa using this)
  rw [← hW] at HB0
  rw [← hW]
  have H1 := Lib.hid (h.below HB0.out)
  have hsz : W.heap.size = w.heap.size + 2 := by rw [hW]; simp
  clear hW h
  go_wp2_with fail
  refine (TA.out _ H1.out).mono ?_
  rintro e w1 ⟨A1, c1, rfl, hd, hb⟩
  have K1 := Lib.hid hb
  have G1 := Lib.hid hd
  have z1 := hb.size
  clear hb hd f1 f2 TA
  go_wp2_with fail
  refine (SR.out A1 c1 _ (G1.out.below (below1 _ _))).mono ?_
  rintro e w2 ⟨A2, c2, rfl, hd, hb⟩
  have K2 := Lib.hid (K1.out.trans (((below1 _ _).trans (hb.mono (by simp))).mono K1.out.size))
  have RX := Lib.hid (cells_of (heap_alloc_new w1 (.cells #[.slice A1 (digs x).length c1, .bool t1] 99)) hb)
  have G2 := Lib.hid hd
  have G1b := Lib.hid ((G1.out.below (below1 w1 (.cells #[.slice A1 (digs x).length c1, .bool t1] 99))).below hb)
  have z2 := heap_lt RX.out
  have f1 := cell_of_row w2 _ 1 _ _ _ RX.out
  simp only [List.getElem?_toArray, List.getElem?_cons_zero, List.getElem?_cons_succ] at f1
  clear hb hd SR
  cases t1
  · go_wp2_with fail
    refine (give_any A2 c2 (x / 2 ^ k) false _ (G2.out.below (below1 _ _)) (by omega)).mono ?_
    rintro e v9 ⟨A9, c9, rfl, hd, hb⟩
    have KA := Lib.hid (K2.out.trans (((below1 _ _).trans (hb.mono (by simp))).mono K2.out.size))
    have G9 := Lib.hid hd
    have HO := Lib.hid (off_row (g := w.heap.size + 1) hd KA.out HR0.out noint2')
    have q0 := row_cell HR0.out KA.out 0
    have q1 := row_cell HR0.out KA.out 1
    have p0 := row_frozen HR0.out KA.out 0
    have p1 := row_frozen HR0.out KA.out 1
    simp only [List.getElem?_toArray, List.getElem?_cons_zero, List.getElem?_cons_succ] at q0 q1
    clear hb hd
    go_wp2
    refine bodyPost_ret (v := .tuple #[.agg #[.bool (false && decide ((x / 2 ^ k) ≠ 0)), .slice A9 (digs (x / 2 ^ k)).length c9], .bool true]) (by simp [results, Tryd.results93, go_sem, q0, q1]) rfl ?_
    exact zb_give (by rw [sg_dn_pos, E1.out]) ((G9.out.set_off HO.out _ _).set_off HO.out _ _) ((((HB0.out.trans (KA.out.mono HB0.out.size)).setCell (by simp <;> omega) _).setCell (by simp <;> omega) _))
  · go_wp2_with fail
    refine (SL.out A2 c2 _ (G2.out.below (below1 _ _))).mono ?_
    rintro e w3 ⟨A3, c3, rfl, hd, hb⟩
    have K3 := Lib.hid (K2.out.trans (((below1 _ _).trans (hb.mono (by simp))).mono K2.out.size))
    have RM := Lib.hid (cells_of (heap_alloc_new w2 (.cells #[.slice A2 (digs (x / 2 ^ k)).length c2] 97)) hb)
    have RX3 := Lib.hid (cells_of (cells_of RX.out (below1 w2 (.cells #[.slice A2 (digs (x / 2 ^ k)).length c2] 97))) hb)
    have G3 := Lib.hid hd
    have G1c := Lib.hid ((G1b.out.below (below1 w2 (.cells #[.slice A2 (digs (x / 2 ^ k)).length c2] 97))).below hb)
    have G2c := Lib.hid ((G2.out.below (below1 w2 (.cells #[.slice A2 (digs (x / 2 ^ k)).length c2] 97))).below hb)
    have z3 := heap_lt RM.out
    clear hb hd SL f1
    have f1 := cell_of_row w3 _ 0 _ _ _ RX3.out
    have f2 := cell_of_row w3 _ 1 _ _ _ RX3.out
    have f3 := cell_of_row w3 _ 0 _ _ _ RM.out
    simp only [List.getElem?_toArray, List.getElem?_cons_zero, List.getElem?_cons_succ] at f1 f2 f3
    go_wp2_with fail
    obtain ⟨q3, hq3⟩ : ∃ q3, cmpi x (x / 2 ^ k * 2 ^ k) = q3 := ⟨_, rfl⟩
    have HQ := Lib.hid hq3
    refine (against_any A1 A3 c1 c3 x (x / 2 ^ k * 2 ^ k) q3 _ G1c.out G3.out (by omega) (by omega) hq3).mono ?_
    rintro e w4 ⟨rfl, hb⟩
    have K4 := Lib.hid (K3.out.trans (hb.mono K3.out.size))
    have RM4 := Lib.hid (cells_of RM.out hb)
    have RX4 := Lib.hid (cells_of RX3.out hb)
    have G2d := Lib.hid (G2c.out.below hb)
    have z4 := heap_lt RM4.out
    clear hb hq3 f1 f2 f3
    have f1 := cell_of_row w4 _ 1 _ _ _ RX4.out
    have f2 := cell_of_row w4 _ 0 _ _ _ RM4.out
    simp only [List.getElem?_toArray, List.getElem?_cons_zero, List.getElem?_cons_succ] at f1 f2
    by_cases hw : x = x / 2 ^ k * 2 ^ k
    · have e3 : q3 = 0 := by rw [← HQ.out]; exact cmpi_eq hw
      have HWH := Lib.hid hw
      subst e3
      clear hw
      go_wp2_with fail
      refine (give_any A2 c2 (x / 2 ^ k) true _ G2d.out (by omega)).mono ?_
      rintro e v9 ⟨A9, c9, rfl, hd, hb⟩
      have KA := Lib.hid (K4.out.trans (hb.mono K4.out.size))
      have G9 := Lib.hid hd
      have HO := Lib.hid (off_row (g := w.heap.size + 1) hd KA.out HR0.out noint2')
      have q0 := row_cell HR0.out KA.out 0
      have q1 := row_cell HR0.out KA.out 1
      have p0 := row_frozen HR0.out KA.out 0
      have p1 := row_frozen HR0.out KA.out 1
      simp only [List.getElem?_toArray, List.getElem?_cons_zero, List.getElem?_cons_succ] at q0 q1
      clear hb hd
      go_wp2
      refine bodyPost_ret (v := .tuple #[.agg #[.bool (true && decide ((x / 2 ^ k) ≠ 0)), .slice A9 (digs (x / 2 ^ k)).length c9], .bool true]) (by simp [results, Tryd.results93, go_sem, q0, q1]) rfl ?_
      exact zb_give (by rw [sg_dn_whole HWH.out, E1.out]) ((G9.out.set_off HO.out _ _).set_off HO.out _ _) ((((HB0.out.trans (KA.out.mono HB0.out.size)).setCell (by simp <;> omega) _).setCell (by simp <;> omega) _))
    · have e3 : ((q3 : Int) != 0) = true := by have := cmpi_three x (x / 2 ^ k * 2 ^ k); rw [HQ.out] at this; simp; omega
      have HWH := Lib.hid hw
      clear hw
      have b3 := digs_add_len (x / 2 ^ k) 1
      have b5 : (digs 1).length ≤ 1 := by rw [digs_one (by omega) (by omega)]; simp
      go_wp2_with fail
      refine (more_any A2 c2 (x / 2 ^ k) _ G2d.out (by omega)).mono ?_
      rintro e w5 ⟨A5, c5, rfl, hd, hb⟩
      have K5 := Lib.hid (K4.out.trans (hb.mono K4.out.size))
      have RM5 := Lib.hid (cells_of RM4.out hb)
      have RX5 := Lib.hid (cells_of RX4.out hb)
      have o5 := frozen_of_row w5 _ 0 _ _ RM5.out
      have HOM := Lib.hid (off_row hd hb RM4.out noint1)
      have G5 := Lib.hid hd
      have z5 := heap_lt RM5.out
      clear hb hd f1 f2
      have f1 := cell_of_row w5 _ 1 _ _ _ RX5.out
      have f2 := cell_of_row w5 _ 0 _ _ _ RM5.out
      simp only [List.getElem?_toArray, List.getElem?_cons_zero, List.getElem?_cons_succ] at f1 f2
      have zz : w1.heap.size ≠ w2.heap.size := by omega
      go_wp2_with fail
      refine (give_any A5 c5 (x / 2 ^ k + 1) true _ (G5.out.set_off HOM.out _ _) (by omega)).mono ?_
      rintro e v9 ⟨A9, c9, rfl, hd, hb⟩
      have KA := Lib.hid ((K5.out.setCell (by simp; omega) _).trans (hb.mono (by have := K5.out.size; simp; omega)))
      have G9 := Lib.hid hd
      have HO := Lib.hid (off_row (g := w.heap.size + 1) hd KA.out HR0.out noint2')
      have q0 := row_cell HR0.out KA.out 0
      have q1 := row_cell HR0.out KA.out 1
      have p0 := row_frozen HR0.out KA.out 0
      have p1 := row_frozen HR0.out KA.out 1
      simp only [List.getElem?_toArray, List.getElem?_cons_zero, List.getElem?_cons_succ] at q0 q1
      clear hb hd
      go_wp2
      refine bodyPost_ret (v := .tuple #[.agg #[.bool (true && decide ((x / 2 ^ k + 1) ≠ 0)), .slice A9 (digs (x / 2 ^ k + 1)).length c9], .bool true]) (by simp [results, Tryd.results93, go_sem, q0, q1]) rfl ?_
      exact zb_give (by rw [sg_dn_more HWH.out, E1.out]) ((G9.out.set_off HO.out _ _).set_off HO.out _ _) ((((HB0.out.trans (KA.out.mono HB0.out.size)).setCell (by simp <;> omega) _).setCell (by simp <;> omega) _))
end Go.Proofs.YtnfafgpnnpapdaaDoor
end

section
/-
  dyad.Floor.
-/
namespace Go.Proofs.YtnfafgpnnpapdaaDoor
open Go.RowKit
set_option linter.unusedSimpArgs false
set_option linter.unusedVariables false
def flo (m x : Int) : Int := if 0 ≤ x then m * 2 ^ x.toNat else m / 2 ^ (-x).toNat
theorem flo_bd {m x : Int} : dv (flo m x) 0 ≤ dv m x ∧ dv m x < dv (flo m x + 1) 0 := by
  unfold flo
  by_cases h : 0 ≤ x
  · rw [if_pos h]
    have e : dv m x = dv (m * 2 ^ x.toNat) 0 := by rw [dv_pow]; congr 1; omega
    rw [e]
    exact ⟨Rat.le_refl, dv_lt.2 (by omega)⟩
  · rw [if_neg h]
    have e : ∀ q : Int, dv q 0 = dv (q * 2 ^ (-x).toNat) x := fun q => by rw [dv_pow]; congr 1; omega
    have hp : (0 : Int) < 2 ^ (-x).toNat := Int.pow_pos (by omega)
    rw [e, e]
    generalize (2 : Int) ^ (-x).toNat = P at *
    have h1 := Int.mul_ediv_add_emod m P
    have h2 := Int.emod_nonneg m (by omega : P ≠ 0)
    have h3 := Int.emod_lt_of_pos m hp
    rw [Int.mul_comm] at h1
    refine ⟨dv_le.2 (by omega), dv_lt.2 ?_⟩
    rw [Int.add_mul, Int.one_mul]; omega
theorem flo_mono {m x n y : Int} (h : dv m x ≤ dv n y) : flo m x ≤ flo n y := by
  have h1 := (flo_bd (m := m) (x := x)).1
  have h2 := (flo_bd (m := n) (x := y)).2
  have := dv_lt.1 (rle_lt (Rat.le_trans h1 h) h2)
  omega
theorem flo_size {m x : Int} {K : Nat} (hK : K = 493) (hb : bl m ≤ 192) (hx : m = 0 ∨ x + bl m ≤ 492) : (flo m x).natAbs < 2 ^ K := by
  unfold flo
  have hm : m.natAbs < 2 ^ bl m := by
    by_cases h0 : m.natAbs = 0
    · rw [h0]; exact Nat.pow_pos (by omega)
    · exact (blen_bd _ h0).2.1
  by_cases h : 0 ≤ x
  · rw [if_pos h, Int.natAbs_mul, Int.natAbs_pow]
    rcases hx with h0 | h1
    · rw [h0, Int.natAbs_zero, Nat.zero_mul]; exact Nat.pow_pos (by omega)
    · have h2 : m.natAbs * 2 ^ x.toNat < 2 ^ bl m * 2 ^ x.toNat := Nat.mul_lt_mul_of_pos_right hm (Nat.pow_pos (by omega))
      rw [← Nat.pow_add] at h2
      exact Nat.lt_of_lt_of_le h2 (Nat.pow_le_pow_right (by omega) (by omega))
  · rw [if_neg h]
    have hp : (0 : Int) < 2 ^ (-x).toNat := Int.pow_pos (by omega)
    have h4 : m.natAbs < 2 ^ 192 := Nat.lt_of_lt_of_le hm (Nat.pow_le_pow_right (by omega) hb)
    generalize (2 : Int) ^ (-x).toNat = P at *
    have h1 := Int.mul_ediv_add_emod m P
    have h2 := Int.emod_nonneg m (by omega : P ≠ 0)
    have h3 := Int.emod_lt_of_pos m hp
    have h5 : (m / P).natAbs ≤ m.natAbs := by
      by_cases hn : 0 ≤ m
      · have a := Int.ediv_nonneg hn (Int.le_of_lt hp)
        have b : m / P ≤ P * (m / P) := by
          have := Int.mul_le_mul_of_nonneg_right (show 1 ≤ P by omega) a
          rw [Int.one_mul] at this; exact this
        omega
      · have a : m / P < 0 := Int.ediv_neg_of_neg_of_pos (by omega) hp
        have b : m ≤ m / P := by
          by_cases h6 : m / P < m
          · exfalso
            have c : P * (m / P) ≤ P * (m - 1) := Int.mul_le_mul_of_nonneg_left (by omega) (by omega)
            have d : P * (m - 1) ≤ 1 * (m - 1) := Int.mul_le_mul_of_nonpos_right (by omega) (by omega)
            have e : P * (m - 1) = P * m - P := by rw [Int.mul_sub, Int.mul_one]
            have g : P * m ≤ 1 * m := Int.mul_le_mul_of_nonpos_right (by omega) (by omega)
            omega
          · omega
        omega
    exact Nat.lt_of_le_of_lt h5 (Nat.lt_of_lt_of_le h4 (Nat.pow_le_pow_right (by omega) (by omega)))

theorem zshift_d {A : Option Addr} {c : Nat} {m x z : Int} {w : World} (h : Dg w A c (digs m.natAbs)) (hl : (digs m.natAbs).length ≤ 10000) (x0 : -100000 ≤ x) (x1 : x ≤ 100000) (hz : flo m x = z) :
    Calls Tryd.prog 93 #[.agg #[.bool (decide (m < 0)), .slice A (digs m.natAbs).length c], .int .i64 x] w fun e w' => Zb z w e w' := by
  subst hz
  unfold flo
  by_cases h1 : 0 ≤ x
  · rw [if_pos h1]
    have := zshift_up A c (decide (m < 0)) (digs m.natAbs) x.toNat w h (by omega) (by omega)
    rw [Int.toNat_of_nonneg h1, sg_dz] at this
    exact this
  · rw [if_neg h1]
    have := zshift_down A c (decide (m < 0)) (digs m.natAbs) (-x).toNat x w h (by omega) (by omega) (by omega) (by omega)
    rw [sg_dz] at this
    exact this
theorem zcmp_d {A B : Option Addr} {c d : Nat} {p q k : Int} {w : World} (h : Dg w A c (digs p.natAbs)) (h' : Dg w B d (digs q.natAbs)) (hl : (digs p.natAbs).length ≤ 1000000) (hl' : (digs q.natAbs).length ≤ 1000000) (hk : Int.sign (p - q) = k) :
    Calls Tryd.prog 51 #[.agg #[.bool (decide (p < 0)), .slice A (digs p.natAbs).length c], .agg #[.bool (decide (q < 0)), .slice B (digs q.natAbs).length d]] w fun e w' => e = .returned (.int .i64 k) ∧ Below w.heap.size w w' := by
  have := zcmp_any A B c d (decide (p < 0)) (decide (q < 0)) (digs p.natAbs) (digs q.natAbs) w h h' hl hl'
  rw [sg_dz, sg_dz, hk] at this; exact this

set_option maxHeartbeats 4000000 in
set_option maxRecDepth 100000 in
theorem floor_yes (A : Option Addr) (c : Nat) (m x z : Int) (w : World) (h : Dg w A c (digs m.natAbs)) (hl : (digs m.natAbs).length ≤ 10000) (r1 : Rt m x) (hq : inR m x = true) (x0 : -100000 ≤ x) (x1 : x ≤ 100000) (hz : flo m x = z):
    Calls Tryd.prog 48 #[.agg #[.bool (decide (m < 0)), .slice A (digs m.natAbs).length c, .int .i64 x]] w fun e w' => ∃ A' c', e = .returned (.tuple #[.agg #[.bool (decide (z < 0)), .slice A' (digs z.natAbs).length c'], .int .i64 0]) ∧ Dg w' A' c' (digs z.natAbs) ∧ Below w.heap.size w w' := by
  have HR1 := Lib.hid r1
  have lx := Lib.hid hl
  have HQ := Lib.hid hq
  have HZ := Lib.hid hz
  have d0 : decide (x < -100000) = false := by simp; omega
  have D0 := Lib.hid d0
  have X0 := Lib.hid x0
  have X1 := Lib.hid x1
  have L0 := Lib.hid ((live_start w).add h)
  clear h hl r1 hq hz d0 x0 x1
  go_enter Tryd.func48, Tryd.ntmps48
  go_wp2_with fail
  obtain ⟨v1, hW⟩ : ∃ W : World, W = (((w.alloc (.cells #[.bool (decide (m < 0)), .slice A (digs m.natAbs).length c, .int .i64 x] 26)).alloc (.cells #[.bool false, .slice none 0 0] 24)).alloc (.cells #[.bool (decide (m < 0)), .slice A (digs m.natAbs).length c, .int .i64 x] 26)) := ⟨_, rfl⟩
  rw [← hW]
  have hb : Below w.heap.size w v1 := by rw [hW]; exact ((((Below.refl _ _).alloc (by simp <;> omega) _).alloc (by simp <;> omega) _).alloc (by simp <;> omega) _)
  have L1 := Lib.hid (L0.out.step hb)
  have Rx_1 := Lib.hid (show v1.heap[w.heap.size]? = some (.cells #[.bool (decide (m < 0)), .slice A (digs m.natAbs).length c, .int .i64 x] 26 (0, 0)) by rw [hW]; have := heap_alloc_new w (.cells #[.bool (decide (m < 0)), .slice A (digs m.natAbs).length c, .int .i64 x] 26); rw [heap_alloc_old _ _ (by simp <;> omega)]; rw [heap_alloc_old _ _ (by simp <;> omega)]; simpa using this)
  have Gx : w.heap.size ≤ w.heap.size := by have := L0.out.1.size; omega
  have Rr_1 := Lib.hid (show v1.heap[w.heap.size + 1]? = some (.cells #[.bool false, .slice none 0 0] 24 (0, 0)) by rw [hW]; have := heap_alloc_new (w.alloc (.cells #[.bool (decide (m < 0)), .slice A (digs m.natAbs).length c, .int .i64 x] 26)) (.cells #[.bool false, .slice none 0 0] 24); rw [heap_alloc_old _ _ (by simp <;> omega)]; simpa using this)
  have Gr : w.heap.size ≤ w.heap.size + 1 := by have := L0.out.1.size; omega
  have Nxr : w.heap.size < w.heap.size + 1 := by omega
  have Rsl_1 := Lib.hid (show v1.heap[w.heap.size + 1 + 1]? = some (.cells #[.bool (decide (m < 0)), .slice A (digs m.natAbs).length c, .int .i64 x] 26 (0, 0)) by rw [hW]; have := heap_alloc_new ((w.alloc (.cells #[.bool (decide (m < 0)), .slice A (digs m.natAbs).length c, .int .i64 x] 26)).alloc (.cells #[.bool false, .slice none 0 0] 24)) (.cells #[.bool (decide (m < 0)), .slice A (digs m.natAbs).length c, .int .i64 x] 26); simpa using this)
  have Gsl : w.heap.size ≤ w.heap.size + 1 + 1 := by have := L0.out.1.size; omega
  have Nxsl : w.heap.size < w.heap.size + 1 + 1 := by omega
  have Nrsl : w.heap.size + 1 < w.heap.size + 1 + 1 := by omega
  clear hW hb
  refine (begin_1 Rsl_1.out (L1.out.get (A := A) (c := c) (xs := digs m.natAbs) (by simp)) (dyR_num HR1.out) (Nat.le_trans lx.out (by omega)) (k := 0) rfl).mono ?_
  rintro e w2 ⟨rfl, hb⟩
  have L2 := Lib.hid (L1.out.step hb)
  have Rx_2 := Lib.hid (cells_of Rx_1.out hb)
  have Rr_2 := Lib.hid (cells_of Rr_1.out hb)
  have Rsl_2 := Lib.hid (cells_of Rsl_1.out hb)
  clear hb 
  have fx0 := row_c (i := 0) Rx_2.out rfl
  have zx0 := frozen_of_row _ _ 0 _ _ Rx_2.out
  have fx1 := row_c (i := 1) Rx_2.out rfl
  have zx1 := frozen_of_row _ _ 1 _ _ Rx_2.out
  have fx2 := row_c (i := 2) Rx_2.out rfl
  have zx2 := frozen_of_row _ _ 2 _ _ Rx_2.out
  have xx := heap_lt Rx_2.out
  go_wp2_with fail
  obtain ⟨w3, hW⟩ : ∃ W : World, W = (w2.alloc (.cells #[.int .i64 0] 79)) := ⟨_, rfl⟩
  rw [← hW]
  have hb : Below w2.heap.size w2 w3 := by rw [hW]; exact ((Below.refl _ _).alloc (by simp <;> omega) _)
  have L3 := Lib.hid (L2.out.step hb)
  have Rx_3 := Lib.hid (cells_of Rx_2.out hb)
  have Rr_3 := Lib.hid (cells_of Rr_2.out hb)
  have Rsl_3 := Lib.hid (cells_of Rsl_2.out hb)
  have Rk_3 := Lib.hid (show w3.heap[w2.heap.size]? = some (.cells #[.int .i64 0] 79 (0, 0)) by rw [hW]; have := heap_alloc_new w2 (.cells #[.int .i64 0] 79); simpa using this)
  have Gk : w.heap.size ≤ w2.heap.size := by have := L2.out.1.size; omega
  have Nxk : w.heap.size < w2.heap.size := by have := heap_lt Rx_2.out; omega
  have Nrk : w.heap.size + 1 < w2.heap.size := by have := heap_lt Rr_2.out; omega
  have Nslk : w.heap.size + 1 + 1 < w2.heap.size := by have := heap_lt Rsl_2.out; omega
  clear hW hb
  clear fx0 zx0 fx1 zx1 fx2 zx2 xx
  refine (inRange_any A c (decide (m < 0)) m x _ (L3.out.get (A := A) (c := c) (xs := digs m.natAbs) (by simp)) true HQ.out (Nat.le_trans lx.out (by omega))).mono ?_
  rintro e w4 ⟨rfl, hb⟩
  have L4 := Lib.hid (L3.out.step hb)
  have Rx_4 := Lib.hid (cells_of Rx_3.out hb)
  have Rr_4 := Lib.hid (cells_of Rr_3.out hb)
  have Rsl_4 := Lib.hid (cells_of Rsl_3.out hb)
  have Rk_4 := Lib.hid (cells_of Rk_3.out hb)
  clear hb 
  go_wp2_with fail
  refine (tell_no _ 0 4 false _ (row_c Rk_4.out (i := 0) rfl) (.inl rfl)).mono ?_
  rintro e w5 ⟨rfl, rfl⟩
  go_wp2_with fail
  refine (fails_any _ 0 false _ (row_c Rk_4.out (i := 0) rfl) rfl).mono ?_
  rintro e w6 ⟨rfl, rfl⟩
  have fx0 := row_c (i := 0) Rx_4.out rfl
  have zx0 := frozen_of_row _ _ 0 _ _ Rx_4.out
  have fx1 := row_c (i := 1) Rx_4.out rfl
  have zx1 := frozen_of_row _ _ 1 _ _ Rx_4.out
  have fx2 := row_c (i := 2) Rx_4.out rfl
  have zx2 := frozen_of_row _ _ 2 _ _ Rx_4.out
  have xx := heap_lt Rx_4.out
  go_wp2_with fail
  go_region
  go_wp2_with fail
  obtain ⟨w7, hW⟩ : ∃ W : World, W = (w4.alloc (.cells #[.bool (decide (m < 0)), .slice A (digs m.natAbs).length c] 24)) := ⟨_, rfl⟩
  rw [← hW]
  have hb : Below w4.heap.size w4 w7 := by rw [hW]; exact ((Below.refl _ _).alloc (by simp <;> omega) _)
  have L7 := Lib.hid (L4.out.step hb)
  have Rx_7 := Lib.hid (cells_of Rx_4.out hb)
  have Rr_7 := Lib.hid (cells_of Rr_4.out hb)
  have Rsl_7 := Lib.hid (cells_of Rsl_4.out hb)
  have Rk_7 := Lib.hid (cells_of Rk_4.out hb)
  have Rwh_7 := Lib.hid (show w7.heap[w4.heap.size]? = some (.cells #[.bool (decide (m < 0)), .slice A (digs m.natAbs).length c] 24 (0, 0)) by rw [hW]; have := heap_alloc_new w4 (.cells #[.bool (decide (m < 0)), .slice A (digs m.natAbs).length c] 24); simpa using this)
  have Gwh : w.heap.size ≤ w4.heap.size := by have := L4.out.1.size; omega
  have Nxwh : w.heap.size < w4.heap.size := by have := heap_lt Rx_4.out; omega
  have Nrwh : w.heap.size + 1 < w4.heap.size := by have := heap_lt Rr_4.out; omega
  have Nslwh : w.heap.size + 1 + 1 < w4.heap.size := by have := heap_lt Rsl_4.out; omega
  have Nkwh : w2.heap.size < w4.heap.size := by have := heap_lt Rk_4.out; omega
  clear hW hb
  clear fx0 zx0 fx1 zx1 fx2 zx2 xx
  obtain ⟨w8, hW⟩ : ∃ W : World, W = w7.drew := ⟨_, rfl⟩
  rw [← hW]
  have hb : Below w7.heap.size w7 w8 := by rw [hW]; exact bd0 _
  have L8 := Lib.hid (L7.out.step hb)
  have Rx_8 := Lib.hid (cells_of Rx_7.out hb)
  have Rr_8 := Lib.hid (cells_of Rr_7.out hb)
  have Rsl_8 := Lib.hid (cells_of Rsl_7.out hb)
  have Rk_8 := Lib.hid (cells_of Rk_7.out hb)
  have Rwh_8 := Lib.hid (cells_of Rwh_7.out hb)
  clear hW hb
  have d0 := D0.out
  go_loop [6] (fun l => l = .int .i64 x) (fun _ => 0)
  case atStart => rfl
  case round =>
    subst hrel
    have fwh0 := row_c (i := 0) Rwh_8.out rfl
    have zwh0 := frozen_of_row _ _ 0 _ _ Rwh_8.out
    have fwh1 := row_c (i := 1) Rwh_8.out rfl
    have zwh1 := frozen_of_row _ _ 1 _ _ Rwh_8.out
    have xwh := heap_lt Rwh_8.out
    clear fwh0 zwh0 fwh1 zwh1 xwh
    have fwh0 := row_c (i := 0) Rwh_8.out rfl
    have zwh0 := frozen_of_row _ _ 0 _ _ Rwh_8.out
    have fwh1 := row_c (i := 1) Rwh_8.out rfl
    have zwh1 := frozen_of_row _ _ 1 _ _ Rwh_8.out
    have xwh := heap_lt Rwh_8.out
    go_wp2_with fail
    refine (zshift_d (z := z) (L8.out.get (A := A) (c := c) (xs := digs m.natAbs) (by simp)) lx.out X0.out X1.out HZ.out).mono ?_
    rintro e w9 ⟨A9, c9, rfl, hd, hb⟩
    have L9 := Lib.hid ((L8.out.step hb).add hd)
    clear fwh0 zwh0 fwh1 zwh1 xwh
    have Rx_9 := Lib.hid (cells_of Rx_8.out hb)
    have Rr_9 := Lib.hid (cells_of Rr_8.out hb)
    have Rsl_9 := Lib.hid (cells_of Rsl_8.out hb)
    have Rk_9 := Lib.hid (cells_of Rk_8.out hb)
    have Rwh_9 := Lib.hid (cells_of Rwh_8.out hb)
    clear hb hd
    have fwh0 := row_c (i := 0) Rwh_9.out rfl
    have zwh0 := frozen_of_row _ _ 0 _ _ Rwh_9.out
    have fwh1 := row_c (i := 1) Rwh_9.out rfl
    have zwh1 := frozen_of_row _ _ 1 _ _ Rwh_9.out
    have xwh := heap_lt Rwh_9.out
    have fr0 := row_c (i := 0) Rr_9.out rfl
    have zr0 := frozen_of_row _ _ 0 _ _ Rr_9.out
    have fr1 := row_c (i := 1) Rr_9.out rfl
    have zr1 := frozen_of_row _ _ 1 _ _ Rr_9.out
    have xr := heap_lt Rr_9.out
    go_wp2
    obtain ⟨w10, hW⟩ : ∃ W : World, W = ((w9.setCell ⟨w4.heap.size, 0, none⟩ (.bool (decide (z < 0)))).setCell ⟨w4.heap.size, 1, none⟩ (.slice A9 (digs z.natAbs).length c9)) := ⟨_, rfl⟩
    rw [← hW]
    have hO : Only (w4.heap.size) w9 w10 := by rw [hW]; exact (((Only.refl (w4.heap.size) w9).setCell 0 _).setCell 1 _)
    have L10 := Lib.hid (live_only L9.out hO Rwh_9.out noint_int Gwh)
    have Rx_10 := Lib.hid ((hO.block _ (by omega)).trans Rx_9.out)
    have Rr_10 := Lib.hid ((hO.block _ (by omega)).trans Rr_9.out)
    have Rsl_10 := Lib.hid ((hO.block _ (by omega)).trans Rsl_9.out)
    have Rk_10 := Lib.hid ((hO.block _ (by omega)).trans Rk_9.out)
    have Rwh_10 := Lib.hid (show w10.heap[w4.heap.size]? = some (.cells #[.bool (decide (z < 0)), .slice A9 (digs z.natAbs).length c9] 24 (0, 0)) by rw [hW]; exact (heap_setCell_same _ _ 1 _ _ _ (heap_setCell_same _ _ 0 _ _ _ Rwh_9.out)))
    clear hW hO
    clear fwh0 zwh0 fwh1 zwh1 xwh fr0 zr0 fr1 zr1 xr
    have fr0 := row_c (i := 0) Rr_10.out rfl
    have zr0 := frozen_of_row _ _ 0 _ _ Rr_10.out
    have fr1 := row_c (i := 1) Rr_10.out rfl
    have zr1 := frozen_of_row _ _ 1 _ _ Rr_10.out
    have xr := heap_lt Rr_10.out
    refine bodyPost_ret (v := .tuple #[.agg #[.bool (decide (z < 0)), .slice A9 (digs z.natAbs).length c9], .int .i64 0]) (by simp [results, Tryd.results48, go_sem, fr0, fr1]) rfl ?_
    
    refine ⟨A9, c9, rfl, ?_, ?_⟩
    · exact (fin2 L10.out Rr_10.out noint2' Gr).get (A := A9) (c := c9) (xs := digs z.natAbs) (by simp)
    · exact (fin2 L10.out Rr_10.out noint2' Gr).1
end Go.Proofs.YtnfafgpnnpapdaaDoor
end
