import Derived.Test.YtnfafgpnnpapdaaDoorMB8
import Derived.Test.YtnfafgpnnpapdaaDoorMB7
section
/-
  Div by 0, Sqrt below 0, Cmp with 0; that there are quotients and roots.
-/
namespace Go.Proofs.YtnfafgpnnpapdaaDoor
open Go.RowKit
set_option linter.unusedSimpArgs false
set_option linter.unusedVariables false
theorem dv_scale (m e k : Int) : dv m (e + k) = dv m e * 2 ^ k := by
  unfold dv; rw [zpow_add2]; grind
theorem rabs_mul (a b : Rat) : (a * b).abs = a.abs * b.abs := by
  rcases (Rat.le_total : 0 ≤ a ∨ a ≤ 0) with ha | ha <;> rcases (Rat.le_total : 0 ≤ b ∨ b ≤ 0) with hb | hb
  · rw [Rat.abs_of_nonneg ha, Rat.abs_of_nonneg hb, Rat.abs_of_nonneg (Rat.mul_nonneg ha hb)]
  · rw [Rat.abs_of_nonneg ha, Rat.abs_of_nonpos hb, Rat.abs_of_nonpos (by have := Rat.mul_nonneg ha (show 0 ≤ -b by grind); grind)]; grind
  · rw [Rat.abs_of_nonpos ha, Rat.abs_of_nonneg hb, Rat.abs_of_nonpos (by have := Rat.mul_nonneg (show 0 ≤ -a by grind) hb; grind)]; grind
  · rw [Rat.abs_of_nonpos ha, Rat.abs_of_nonpos hb, Rat.abs_of_nonneg (by have := Rat.mul_nonneg (show 0 ≤ -a by grind) (show 0 ≤ -b by grind); grind)]; grind
/-- A number that is not 0 lies between powers of 2. -/
theorem Bd.size {L H m x : Int} (h : Bd L H m x) (m0 : m ≠ 0) : 2 ^ L ≤ (dv m x).abs ∧ (dv m x).abs < 2 ^ H := by
  have a := h.2.resolve_left m0
  have ⟨s1, s2⟩ := sz_dv (e := x) m0
  have := bl_pos m0
  exact ⟨Rat.le_trans (zpow_le.2 (by omega)) s1, rlt_le s2 (zpow_le.2 a.2)⟩
theorem quot_bd {a b r : Rat} {L H L' H' : Int} (hr : r * b = a) (h1 : 2 ^ L ≤ a.abs) (h2 : a.abs < 2 ^ H) (h3 : 2 ^ L' ≤ b.abs) (h4 : b.abs < 2 ^ H') : 2 ^ (L - H') ≤ r.abs ∧ r.abs < 2 ^ (H - L') := by
  rw [← hr, rabs_mul] at h1 h2
  have hb : 0 < b.abs := rlt_le (zpow_pos L') h3
  constructor
  · refine Rat.le_of_mul_le_mul_right (c := b.abs) ?_ hb
    refine Rat.le_trans ?_ h1
    have e : (2 : Rat) ^ L = 2 ^ (L - H') * 2 ^ H' := by rw [← zpow_add2]; congr 1; omega
    rw [e]
    exact Rat.mul_le_mul_of_nonneg_left (Rat.le_of_lt h4) (Rat.le_of_lt (zpow_pos _))
  · refine Rat.lt_of_mul_lt_mul_right (c := b.abs) ?_ (Rat.le_of_lt hb)
    refine rlt_le h2 ?_
    have e : (2 : Rat) ^ H = 2 ^ (H - L') * 2 ^ L' := by rw [← zpow_add2]; congr 1; omega
    rw [e]
    exact Rat.mul_le_mul_of_nonneg_left h3 (Rat.le_of_lt (zpow_pos _))
theorem Bd.div {L H L' H' m x n y M E : Int} {p : Nat} {up : Bool} (h1 : 1 ≤ p) (h : Bd L H m x) (h' : Bd L' H' n y) (n0 : n ≠ 0) (hr : RdOf (dv m x / dv n y) p up M E) : Bd (L - H' - p) (H - L' + 1) M E := by
  refine rd_bd h1 hr ?_
  have hn : dv n y ≠ 0 := fun e => n0 (dv_eq0.1 e)
  by_cases hm : m = 0
  · left; rw [hm, dv_zero, Rat.div_def, Rat.zero_mul]
  · right
    have a := h.size hm
    have b := h'.size n0
    exact quot_bd (Rat.div_mul_cancel hn) a.1 a.2 b.1 b.2
theorem div_exists {m n x y : Int} (hn : n ≠ 0) {p : Nat} (h1 : 1 ≤ p) (up : Bool) : ∃ M E, RdOf (dv m x / dv n y) p up M E := by
  by_cases h0 : m = 0
  · exact ⟨0, 0, .inl ⟨rfl, rfl⟩, .inl ⟨by rw [h0, dv_zero, Rat.div_def, Rat.zero_mul], rfl⟩⟩
  · exact ⟨_, _, (div_kept (k := p + blen n.natAbs) (more := decide (m.natAbs * 2 ^ (p + blen n.natAbs) % n.natAbs ≠ 0)) (up := up) h0 hn h1 (by omega) rfl).2⟩
theorem RsOf.self {m x : Int} {p : Nat} (h1 : 1 ≤ p) (hn : Nf m x) (h0 : 0 ≤ m) (hb : bl m ≤ p) : RsOf (dv m x * dv m x) p false m x := by
  refine ⟨hn, ?_⟩
  by_cases hm : m = 0
  · left; rw [hm, dv_zero]; exact ⟨Rat.zero_mul 0, rfl⟩
  · right
    have e : dv (m * 2 ^ (p - bl m)) (x - (p - bl m : Nat)) = dv m x := by
      rw [dv_pow]; congr 1; omega
    have ⟨a, b, _⟩ := blen_bd m.natAbs (by omega)
    have hbl : blen m.natAbs = bl m := rfl
    have hp := bl_pos hm
    rw [hbl] at a b
    have hma : (m.natAbs : Int) = m := by omega
    refine ⟨x - (p - bl m : Nat), m * 2 ^ (p - bl m), ?_, ?_, ?_, ?_, ?_⟩
    · have : 2 ^ (bl m - 1) * 2 ^ (p - bl m) ≤ m.natAbs * 2 ^ (p - bl m) := Nat.mul_le_mul_right _ a
      rw [← Nat.pow_add, show bl m - 1 + (p - bl m) = p - 1 by omega] at this
      rw [← hma]; exact_mod_cast this
    · have : m.natAbs * 2 ^ (p - bl m) < 2 ^ bl m * 2 ^ (p - bl m) := Nat.mul_lt_mul_of_pos_right b (Nat.pow_pos (by omega))
      rw [← Nat.pow_add, show bl m + (p - bl m) = p by omega] at this
      rw [← hma]; exact_mod_cast this
    · rw [e]; exact Rat.le_refl
    · rw [← e]
      have h2 : dv (m * 2 ^ (p - bl m)) (x - (p - bl m : Nat)) < dv (m * 2 ^ (p - bl m) + 1) (x - (p - bl m : Nat)) := dv_lt.2 (by omega)
      have h3 : 0 ≤ dv (m * 2 ^ (p - bl m)) (x - (p - bl m : Nat)) := by rw [e]; exact dv_nonneg.2 h0
      generalize dv (m * 2 ^ (p - bl m)) (x - (p - bl m : Nat)) = a at *
      generalize dv (m * 2 ^ (p - bl m) + 1) (x - (p - bl m : Nat)) = b at *
      have h4 : a * a ≤ a * b := Rat.mul_le_mul_of_nonneg_left (Rat.le_of_lt h2) h3
      have h5 : b * a < b * b := Rat.mul_lt_mul_of_pos_left h2 (by grind)
      grind
    · rw [← e]; simp
theorem sqrt_exists {m x : Int} (h0 : 0 ≤ m) {p : Nat} (h1 : 1 ≤ p) (up : Bool) : ∃ M E, RsOf (dv m x) p up M E := by
  by_cases hm : m = 0
  · exact ⟨0, 0, .inl ⟨rfl, rfl⟩, .inl ⟨by rw [hm, dv_zero], rfl⟩⟩
  · obtain ⟨k, hk1, hk2⟩ : ∃ k : Nat, 2 * p ≤ k ∧ (x - k) % 2 = 0 := by
      by_cases hx : (x - (2 * p : Nat)) % 2 = 0
      · exact ⟨2 * p, Nat.le_refl _, hx⟩
      · exact ⟨2 * p + 1, by omega, by omega⟩
    exact ⟨_, _, (sqrt_kept (k := k) (h := (x - k) / 2) (more := decide (m.natAbs * 2 ^ k - rt (m.natAbs * 2 ^ k) * rt (m.natAbs * 2 ^ k) ≠ 0)) (up := up) (by omega) h1 (by omega) (by omega) rfl).2⟩
theorem RsOf.nonneg {X : Rat} {p : Nat} {up : Bool} {M E : Int} (h : RsOf X p up M E) : 0 ≤ M := by
  rcases h.2 with ⟨_, h0⟩ | ⟨s, t, ht, _, _, _, hv⟩
  · omega
  · have hp : (0 : Int) < 2 ^ (p - 1) := Int.pow_pos (by omega)
    have : 0 ≤ dv M E := by rw [hv]; exact dv_nonneg.2 (by split <;> omega)
    exact dv_nonneg.1 this
theorem RsOf.le {X : Rat} {p : Nat} {M E : Int} (h : RsOf X p false M E) : dv M E * dv M E ≤ X := by
  rcases h.2 with ⟨h1, h0⟩ | ⟨s, t, ht, _, h3, _, hv⟩
  · rw [h0, dv_zero, h1]; grind
  · rw [hv]; simpa using h3
theorem RsOf.ge {X : Rat} {p : Nat} {M E : Int} (h : RsOf X p true M E) : X ≤ dv M E * dv M E := by
  rcases h.2 with ⟨h1, h0⟩ | ⟨s, t, ht, _, h3, h4, hv⟩
  · rw [h0, dv_zero, h1]; grind
  · rw [hv]
    by_cases he : dv t s * dv t s = X
    · simp [he]
    · simp [he]; exact Rat.le_of_lt h4
theorem rsq_pow (k : Int) : (2 : Rat) ^ k * 2 ^ k = 2 ^ (2 * k) := by rw [← zpow_add2]; congr 1; omega
theorem Bd.root {L H m x M E : Int} {p : Nat} {up : Bool} (h1 : 1 ≤ p) (h : Bd L H m x) (hr : RsOf (dv m x) p up M E) (hL : L ≤ 0) (hH : 0 ≤ H) : Bd (L - p) (H + 3) M E := by
  refine ⟨hr.1, ?_⟩
  rcases hr.2 with ⟨_, h0⟩ | ⟨s, t, ht1, ht2, h3, h4, hv⟩
  · exact .inl h0
  · by_cases hM : M = 0
    · exact .inl hM
    · have hp1 : (2 : Int) ^ p = 2 ^ (p - 1) * 2 := by rw [← Int.pow_succ]; congr 1; omega
      have hpp : (0 : Int) < 2 ^ (p - 1) := Int.pow_pos (by omega)
      have hm : m ≠ 0 := by
        rintro rfl
        rw [dv_zero] at h3
        have : 0 < dv t s := dv_pos.2 (by omega)
        have := Rat.mul_pos this this
        grind
      have hb := h.size hm
      have hx : 0 ≤ dv m x := by
        refine Rat.le_trans ?_ h3
        have : 0 ≤ dv t s := dv_nonneg.2 (by omega)
        exact Rat.mul_nonneg this this
      rw [Rat.abs_of_nonneg hx] at hb
      -- the root's least bit
      have c1 : (2 : Rat) ^ (s + (p - 1 : Nat)) ≤ dv t s := by
        rw [← dv_two]; exact dv_le.2 (by exact_mod_cast ht1)
      have c2 : dv (t + 1) s ≤ 2 ^ (s + (p : Nat)) := by
        rw [← dv_two]; exact dv_le.2 (by have : t < 2 ^ p := by exact_mod_cast ht2
                                         exact_mod_cast this)
      have d1 : (2 : Rat) ^ (2 * (s + (p - 1 : Nat))) < 2 ^ H := by
        rw [← rsq_pow]
        exact rle_lt (Rat.le_trans (rsq_le (Rat.le_of_lt (zpow_pos _)) c1) h3) hb.2
      have d2 : (2 : Rat) ^ L < 2 ^ (2 * (s + (p : Nat))) := by
        rw [← rsq_pow]
        refine rle_lt hb.1 (rlt_le h4 (rsq_le (dv_nonneg.2 (by omega)) c2))
      have e1 := zpow_lt.1 d1
      have e2 := zpow_lt.1 d2
      have hT : (t + (if up && decide (dv t s * dv t s ≠ dv m x) then 1 else 0)).natAbs ≤ 2 ^ p := by
        have : (2 : Int) ^ p = ((2 ^ p : Nat) : Int) := by push_cast; rfl
        split <;> omega
      have hbt : bl (t + (if up && decide (dv t s * dv t s ≠ dv m x) then 1 else 0)) ≤ p + 1 := by
        unfold bl; exact blen_le (Nat.lt_of_le_of_lt hT (Nat.pow_lt_pow_right (by omega) (by omega)))
      have := (Bd.of (m := t + (if up && decide (dv t s * dv t s ≠ dv m x) then 1 else 0)) (e := s) (L := L - p) (H := H + 3) (by omega) (by omega) (M := M) (E := E) ⟨hr.1, hv⟩)
      exact this.2

set_option maxHeartbeats 4000000 in
set_option maxRecDepth 100000 in
theorem div_no (A B : Option Addr) (c d : Nat) (m n x y P Z : Int) (up : Bool) (w : World) (h : Dg w A c (digs m.natAbs)) (h' : Dg w B d (digs n.natAbs)) (hl : (digs m.natAbs).length ≤ 10000) (hl' : (digs n.natAbs).length ≤ 10000) (r1 : Rt m x) (r2 : Rt n y) (p2 : 2 ≤ P) (p4 : P ≤ 400) (n0 : n = 0) (hZ : Z = 0):
    Calls Tryd.prog 42 #[.agg #[.bool (decide (m < 0)), .slice A (digs m.natAbs).length c, .int .i64 x], .agg #[.bool (decide (n < 0)), .slice B (digs n.natAbs).length d, .int .i64 y], .int .i64 P, .bool up] w fun e w' => Ye Z Z 3 w e w' := by
  have HR1 := Lib.hid r1
  have HR2 := Lib.hid r2
  have lx := Lib.hid hl
  have ly := Lib.hid hl'
  have HPR := Lib.hid (precB_in p2 p4)
  have D2 := Lib.hid (show decide (n = 0) = true by simp [n0])
  have L0 := Lib.hid (((live_start w).add h).add h')
  clear h h' hl hl' r1 r2 n0 p2 p4
  go_enter Tryd.func42, Tryd.ntmps42
  go_wp2_with fail
  obtain ⟨v1, hW⟩ : ∃ W : World, W = ((((w.alloc (.cells #[.bool (decide (m < 0)), .slice A (digs m.natAbs).length c, .int .i64 x] 26)).alloc (.cells #[.bool (decide (n < 0)), .slice B (digs n.natAbs).length d, .int .i64 y] 26)).alloc (.cells #[.bool false, .slice none 0 0, .int .i64 0] 26)).alloc (.cells #[.bool (decide (m < 0)), .slice A (digs m.natAbs).length c, .int .i64 x, .bool (decide (n < 0)), .slice B (digs n.natAbs).length d, .int .i64 y] 26)) := ⟨_, rfl⟩
  rw [← hW]
  have hb : Below w.heap.size w v1 := by rw [hW]; exact (((((Below.refl _ _).alloc (by simp <;> omega) _).alloc (by simp <;> omega) _).alloc (by simp <;> omega) _).alloc (by simp <;> omega) _)
  have L1 := Lib.hid (L0.out.step hb)
  have Rx_1 := Lib.hid (show v1.heap[w.heap.size]? = some (.cells #[.bool (decide (m < 0)), .slice A (digs m.natAbs).length c, .int .i64 x] 26 (0, 0)) by rw [hW]; have := heap_alloc_new w (.cells #[.bool (decide (m < 0)), .slice A (digs m.natAbs).length c, .int .i64 x] 26); rw [heap_alloc_old _ _ (by simp <;> omega)]; rw [heap_alloc_old _ _ (by simp <;> omega)]; rw [heap_alloc_old _ _ (by simp <;> omega)]; simpa using this)
  have Gx : w.heap.size ≤ w.heap.size := by have := L0.out.1.size; omega
  have Ry_1 := Lib.hid (show v1.heap[w.heap.size + 1]? = some (.cells #[.bool (decide (n < 0)), .slice B (digs n.natAbs).length d, .int .i64 y] 26 (0, 0)) by rw [hW]; have := heap_alloc_new (w.alloc (.cells #[.bool (decide (m < 0)), .slice A (digs m.natAbs).length c, .int .i64 x] 26)) (.cells #[.bool (decide (n < 0)), .slice B (digs n.natAbs).length d, .int .i64 y] 26); rw [heap_alloc_old _ _ (by simp <;> omega)]; rw [heap_alloc_old _ _ (by simp <;> omega)]; simpa using this)
  have Gy : w.heap.size ≤ w.heap.size + 1 := by have := L0.out.1.size; omega
  have Nxy : w.heap.size < w.heap.size + 1 := by omega
  have Rr_1 := Lib.hid (show v1.heap[w.heap.size + 1 + 1]? = some (.cells #[.bool false, .slice none 0 0, .int .i64 0] 26 (0, 0)) by rw [hW]; have := heap_alloc_new ((w.alloc (.cells #[.bool (decide (m < 0)), .slice A (digs m.natAbs).length c, .int .i64 x] 26)).alloc (.cells #[.bool (decide (n < 0)), .slice B (digs n.natAbs).length d, .int .i64 y] 26)) (.cells #[.bool false, .slice none 0 0, .int .i64 0] 26); rw [heap_alloc_old _ _ (by simp <;> omega)]; simpa using this)
  have Gr : w.heap.size ≤ w.heap.size + 1 + 1 := by have := L0.out.1.size; omega
  have Nxr : w.heap.size < w.heap.size + 1 + 1 := by omega
  have Nyr : w.heap.size + 1 < w.heap.size + 1 + 1 := by omega
  have Rsl_1 := Lib.hid (show v1.heap[w.heap.size + 1 + 1 + 1]? = some (.cells #[.bool (decide (m < 0)), .slice A (digs m.natAbs).length c, .int .i64 x, .bool (decide (n < 0)), .slice B (digs n.natAbs).length d, .int .i64 y] 26 (0, 0)) by rw [hW]; have := heap_alloc_new (((w.alloc (.cells #[.bool (decide (m < 0)), .slice A (digs m.natAbs).length c, .int .i64 x] 26)).alloc (.cells #[.bool (decide (n < 0)), .slice B (digs n.natAbs).length d, .int .i64 y] 26)).alloc (.cells #[.bool false, .slice none 0 0, .int .i64 0] 26)) (.cells #[.bool (decide (m < 0)), .slice A (digs m.natAbs).length c, .int .i64 x, .bool (decide (n < 0)), .slice B (digs n.natAbs).length d, .int .i64 y] 26); simpa using this)
  have Gsl : w.heap.size ≤ w.heap.size + 1 + 1 + 1 := by have := L0.out.1.size; omega
  have Nxsl : w.heap.size < w.heap.size + 1 + 1 + 1 := by omega
  have Nysl : w.heap.size + 1 < w.heap.size + 1 + 1 + 1 := by omega
  have Nrsl : w.heap.size + 1 + 1 < w.heap.size + 1 + 1 + 1 := by omega
  clear hW hb
  refine (begin_2 Rsl_1.out (L1.out.get (A := A) (c := c) (xs := digs m.natAbs) (by simp)) (L1.out.get (A := B) (c := d) (xs := digs n.natAbs) (by simp)) (dyR_num HR1.out) (dyR_num HR2.out) (Nat.le_trans lx.out (by omega)) (Nat.le_trans ly.out (by omega)) (k := 0) rfl).mono ?_
  rintro e w2 ⟨rfl, hb⟩
  have L2 := Lib.hid (L1.out.step hb)
  have Rx_2 := Lib.hid (cells_of Rx_1.out hb)
  have Ry_2 := Lib.hid (cells_of Ry_1.out hb)
  have Rr_2 := Lib.hid (cells_of Rr_1.out hb)
  have Rsl_2 := Lib.hid (cells_of Rsl_1.out hb)
  clear hb 
  go_wp2_with fail
  obtain ⟨w3, hW⟩ : ∃ W : World, W = (w2.alloc (.cells #[.int .i64 0] 79)) := ⟨_, rfl⟩
  rw [← hW]
  have hb : Below w2.heap.size w2 w3 := by rw [hW]; exact ((Below.refl _ _).alloc (by simp <;> omega) _)
  have L3 := Lib.hid (L2.out.step hb)
  have Rx_3 := Lib.hid (cells_of Rx_2.out hb)
  have Ry_3 := Lib.hid (cells_of Ry_2.out hb)
  have Rr_3 := Lib.hid (cells_of Rr_2.out hb)
  have Rsl_3 := Lib.hid (cells_of Rsl_2.out hb)
  have Rk_3 := Lib.hid (show w3.heap[w2.heap.size]? = some (.cells #[.int .i64 0] 79 (0, 0)) by rw [hW]; have := heap_alloc_new w2 (.cells #[.int .i64 0] 79); simpa using this)
  have Gk : w.heap.size ≤ w2.heap.size := by have := L2.out.1.size; omega
  have Nxk : w.heap.size < w2.heap.size := by have := heap_lt Rx_2.out; omega
  have Nyk : w.heap.size + 1 < w2.heap.size := by have := heap_lt Ry_2.out; omega
  have Nrk : w.heap.size + 1 + 1 < w2.heap.size := by have := heap_lt Rr_2.out; omega
  have Nslk : w.heap.size + 1 + 1 + 1 < w2.heap.size := by have := heap_lt Rsl_2.out; omega
  clear hW hb
  refine (precision_no _ 0 P _ (row_c Rk_3.out (i := 0) rfl) (.inl HPR.out)).mono ?_
  rintro e w4 ⟨rfl, rfl⟩
  have fy0 := row_c (i := 0) Ry_3.out rfl
  have zy0 := frozen_of_row _ _ 0 _ _ Ry_3.out
  have fy1 := row_c (i := 1) Ry_3.out rfl
  have zy1 := frozen_of_row _ _ 1 _ _ Ry_3.out
  have fy2 := row_c (i := 2) Ry_3.out rfl
  have zy2 := frozen_of_row _ _ 2 _ _ Ry_3.out
  have xy := heap_lt Ry_3.out
  go_wp2_with fail
  refine (isz_d (x := y) D2.out).mono ?_
  rintro e w5 ⟨rfl, hb⟩
  have L5 := Lib.hid (L3.out.step hb)
  clear fy0 zy0 fy1 zy1 fy2 zy2 xy
  have Rx_5 := Lib.hid (cells_of Rx_3.out hb)
  have Ry_5 := Lib.hid (cells_of Ry_3.out hb)
  have Rr_5 := Lib.hid (cells_of Rr_3.out hb)
  have Rsl_5 := Lib.hid (cells_of Rsl_3.out hb)
  have Rk_5 := Lib.hid (cells_of Rk_3.out hb)
  clear hb 
  go_wp2_with fail
  refine (tell_yes _ 3 _ (row_c Rk_5.out (i := 0) rfl) (frozen_of_row _ _ 0 _ _ Rk_5.out)).mono ?_
  rintro e w6 ⟨rfl, rfl⟩
  obtain ⟨w7, hW⟩ : ∃ W : World, W = (w5.setCell ⟨w2.heap.size, 0, none⟩ (.int .i64 3)) := ⟨_, rfl⟩
  rw [← hW]
  have hO : Only (w2.heap.size) w5 w7 := by rw [hW]; exact ((Only.refl (w2.heap.size) w5).setCell 0 _)
  have L7 := Lib.hid (live_only L5.out hO Rk_5.out noint_re Gk)
  have Rx_7 := Lib.hid ((hO.block _ (by omega)).trans Rx_5.out)
  have Ry_7 := Lib.hid ((hO.block _ (by omega)).trans Ry_5.out)
  have Rr_7 := Lib.hid ((hO.block _ (by omega)).trans Rr_5.out)
  have Rsl_7 := Lib.hid ((hO.block _ (by omega)).trans Rsl_5.out)
  have Rk_7 := Lib.hid (show w7.heap[w2.heap.size]? = some (.cells #[.int .i64 3] 79 (0, 0)) by rw [hW]; exact (heap_setCell_same _ _ 0 _ _ _ Rk_5.out))
  clear hW hO
  go_wp2_with fail
  refine (fails_any _ 3 true _ (row_c Rk_7.out (i := 0) rfl) rfl).mono ?_
  rintro e w8 ⟨rfl, rfl⟩
  go_wp2_with fail
  refine (none_any _ 3 _ (row_c Rk_7.out (i := 0) rfl) (heap_lt Rk_7.out)).mono ?_
  rintro e w9 ⟨rfl, hb⟩
  have L9 := Lib.hid (L7.out.step hb)
  have Rx_9 := Lib.hid (cells_of Rx_7.out hb)
  have Ry_9 := Lib.hid (cells_of Ry_7.out hb)
  have Rr_9 := Lib.hid (cells_of Rr_7.out hb)
  have Rsl_9 := Lib.hid (cells_of Rsl_7.out hb)
  have Rk_9 := Lib.hid (cells_of Rk_7.out hb)
  clear hb 
  have fr0 := row_c (i := 0) Rr_9.out rfl
  have zr0 := frozen_of_row _ _ 0 _ _ Rr_9.out
  have fr1 := row_c (i := 1) Rr_9.out rfl
  have zr1 := frozen_of_row _ _ 1 _ _ Rr_9.out
  have fr2 := row_c (i := 2) Rr_9.out rfl
  have zr2 := frozen_of_row _ _ 2 _ _ Rr_9.out
  have xr := heap_lt Rr_9.out
  go_wp2
  refine bodyPost_ret (v := .tuple #[.agg #[.bool false, .slice none 0 0, .int .i64 0], .int .i64 3]) (by simp [results, Tryd.results42, go_sem, fr0, fr1, fr2]) rfl ?_
  
  subst hZ
  exact zero_ye (fin3 L9.out Rr_9.out noint3 Gr).1

set_option maxHeartbeats 4000000 in
set_option maxRecDepth 100000 in
theorem sqrt_no (A : Option Addr) (c : Nat) (m x P Z : Int) (up : Bool) (w : World) (h : Dg w A c (digs m.natAbs)) (hl : (digs m.natAbs).length ≤ 10000) (r1 : Rt m x) (p2 : 2 ≤ P) (p4 : P ≤ 400) (m0 : m < 0) (hZ : Z = 0):
    Calls Tryd.prog 44 #[.agg #[.bool (decide (m < 0)), .slice A (digs m.natAbs).length c, .int .i64 x], .int .i64 P, .bool up] w fun e w' => Ye Z Z 3 w e w' := by
  have HR1 := Lib.hid r1
  have lx := Lib.hid hl
  have HPR := Lib.hid (precB_in p2 p4)
  have dneg : decide (m < 0) = true := by simpa using m0
  have HNEG := Lib.hid dneg
  have L0 := Lib.hid ((live_start w).add h)
  clear h hl r1 m0 p2 p4 dneg
  go_enter Tryd.func44, Tryd.ntmps44
  go_wp2_with fail
  obtain ⟨v1, hW⟩ : ∃ W : World, W = (((w.alloc (.cells #[.bool (decide (m < 0)), .slice A (digs m.natAbs).length c, .int .i64 x] 26)).alloc (.cells #[.bool false, .slice none 0 0, .int .i64 0] 26)).alloc (.cells #[.bool (decide (m < 0)), .slice A (digs m.natAbs).length c, .int .i64 x] 26)) := ⟨_, rfl⟩
  rw [← hW]
  have hb : Below w.heap.size w v1 := by rw [hW]; exact ((((Below.refl _ _).alloc (by simp <;> omega) _).alloc (by simp <;> omega) _).alloc (by simp <;> omega) _)
  have L1 := Lib.hid (L0.out.step hb)
  have Rx_1 := Lib.hid (show v1.heap[w.heap.size]? = some (.cells #[.bool (decide (m < 0)), .slice A (digs m.natAbs).length c, .int .i64 x] 26 (0, 0)) by rw [hW]; have := heap_alloc_new w (.cells #[.bool (decide (m < 0)), .slice A (digs m.natAbs).length c, .int .i64 x] 26); rw [heap_alloc_old _ _ (by simp <;> omega)]; rw [heap_alloc_old _ _ (by simp <;> omega)]; simpa using this)
  have Gx : w.heap.size ≤ w.heap.size := by have := L0.out.1.size; omega
  have Rr_1 := Lib.hid (show v1.heap[w.heap.size + 1]? = some (.cells #[.bool false, .slice none 0 0, .int .i64 0] 26 (0, 0)) by rw [hW]; have := heap_alloc_new (w.alloc (.cells #[.bool (decide (m < 0)), .slice A (digs m.natAbs).length c, .int .i64 x] 26)) (.cells #[.bool false, .slice none 0 0, .int .i64 0] 26); rw [heap_alloc_old _ _ (by simp <;> omega)]; simpa using this)
  have Gr : w.heap.size ≤ w.heap.size + 1 := by have := L0.out.1.size; omega
  have Nxr : w.heap.size < w.heap.size + 1 := by omega
  have Rsl_1 := Lib.hid (show v1.heap[w.heap.size + 1 + 1]? = some (.cells #[.bool (decide (m < 0)), .slice A (digs m.natAbs).length c, .int .i64 x] 26 (0, 0)) by rw [hW]; have := heap_alloc_new ((w.alloc (.cells #[.bool (decide (m < 0)), .slice A (digs m.natAbs).length c, .int .i64 x] 26)).alloc (.cells #[.bool false, .slice none 0 0, .int .i64 0] 26)) (.cells #[.bool (decide (m < 0)), .slice A (digs m.natAbs).length c, .int .i64 x] 26); simpa using this)
  have Gsl : w.heap.size ≤ w.heap.size + 1 + 1 := by have := L0.out.1.size; omega
  have Nxsl : w.heap.size < w.heap.size + 1 + 1 := by omega
  have Nrsl : w.heap.size + 1 < w.heap.size + 1 + 1 := by omega
  clear hW hb
  refine (begin_1 Rsl_1.out (L1.out.get (A := A) (c := c) (xs := digs m.natAbs) (by simp)) (dyR_num HR1.out) (Nat.le_trans lx.out (by omega)) (k := 0) rfl).mono ?_
  rintro e w2 ⟨rfl, hb⟩
  have L2 := Lib.hid (L1.out.step hb)
  have Rx_2 := Lib.hid (cells_of Rx_1.out hb)
  have Rr_2 := Lib.hid (cells_of Rr_1.out hb)
  have Rsl_2 := Lib.hid (cells_of Rsl_1.out hb)
  clear hb 
  go_wp2_with fail
  obtain ⟨w3, hW⟩ : ∃ W : World, W = (w2.alloc (.cells #[.int .i64 0] 79)) := ⟨_, rfl⟩
  rw [← hW]
  have hb : Below w2.heap.size w2 w3 := by rw [hW]; exact ((Below.refl _ _).alloc (by simp <;> omega) _)
  have L3 := Lib.hid (L2.out.step hb)
  have Rx_3 := Lib.hid (cells_of Rx_2.out hb)
  have Rr_3 := Lib.hid (cells_of Rr_2.out hb)
  have Rsl_3 := Lib.hid (cells_of Rsl_2.out hb)
  have Rk_3 := Lib.hid (show w3.heap[w2.heap.size]? = some (.cells #[.int .i64 0] 79 (0, 0)) by rw [hW]; have := heap_alloc_new w2 (.cells #[.int .i64 0] 79); simpa using this)
  have Gk : w.heap.size ≤ w2.heap.size := by have := L2.out.1.size; omega
  have Nxk : w.heap.size < w2.heap.size := by have := heap_lt Rx_2.out; omega
  have Nrk : w.heap.size + 1 < w2.heap.size := by have := heap_lt Rr_2.out; omega
  have Nslk : w.heap.size + 1 + 1 < w2.heap.size := by have := heap_lt Rsl_2.out; omega
  clear hW hb
  refine (precision_no _ 0 P _ (row_c Rk_3.out (i := 0) rfl) (.inl HPR.out)).mono ?_
  rintro e w4 ⟨rfl, rfl⟩
  have dneg := HNEG.out
  have fx0 := row_c (i := 0) Rx_3.out rfl
  have zx0 := frozen_of_row _ _ 0 _ _ Rx_3.out
  have fx1 := row_c (i := 1) Rx_3.out rfl
  have zx1 := frozen_of_row _ _ 1 _ _ Rx_3.out
  have fx2 := row_c (i := 2) Rx_3.out rfl
  have zx2 := frozen_of_row _ _ 2 _ _ Rx_3.out
  have xx := heap_lt Rx_3.out
  go_wp2_with fail
  refine (tell_yes _ 3 _ (row_c Rk_3.out (i := 0) rfl) (frozen_of_row _ _ 0 _ _ Rk_3.out)).mono ?_
  rintro e w5 ⟨rfl, rfl⟩
  clear dneg
  obtain ⟨w6, hW⟩ : ∃ W : World, W = (w3.setCell ⟨w2.heap.size, 0, none⟩ (.int .i64 3)) := ⟨_, rfl⟩
  rw [← hW]
  have hO : Only (w2.heap.size) w3 w6 := by rw [hW]; exact ((Only.refl (w2.heap.size) w3).setCell 0 _)
  have L6 := Lib.hid (live_only L3.out hO Rk_3.out noint_re Gk)
  have Rx_6 := Lib.hid ((hO.block _ (by omega)).trans Rx_3.out)
  have Rr_6 := Lib.hid ((hO.block _ (by omega)).trans Rr_3.out)
  have Rsl_6 := Lib.hid ((hO.block _ (by omega)).trans Rsl_3.out)
  have Rk_6 := Lib.hid (show w6.heap[w2.heap.size]? = some (.cells #[.int .i64 3] 79 (0, 0)) by rw [hW]; exact (heap_setCell_same _ _ 0 _ _ _ Rk_3.out))
  clear hW hO
  clear fx0 zx0 fx1 zx1 fx2 zx2 xx
  go_wp2_with fail
  refine (fails_any _ 3 true _ (row_c Rk_6.out (i := 0) rfl) rfl).mono ?_
  rintro e w7 ⟨rfl, rfl⟩
  go_wp2_with fail
  refine (none_any _ 3 _ (row_c Rk_6.out (i := 0) rfl) (heap_lt Rk_6.out)).mono ?_
  rintro e w8 ⟨rfl, hb⟩
  have L8 := Lib.hid (L6.out.step hb)
  have Rx_8 := Lib.hid (cells_of Rx_6.out hb)
  have Rr_8 := Lib.hid (cells_of Rr_6.out hb)
  have Rsl_8 := Lib.hid (cells_of Rsl_6.out hb)
  have Rk_8 := Lib.hid (cells_of Rk_6.out hb)
  clear hb 
  have fr0 := row_c (i := 0) Rr_8.out rfl
  have zr0 := frozen_of_row _ _ 0 _ _ Rr_8.out
  have fr1 := row_c (i := 1) Rr_8.out rfl
  have zr1 := frozen_of_row _ _ 1 _ _ Rr_8.out
  have fr2 := row_c (i := 2) Rr_8.out rfl
  have zr2 := frozen_of_row _ _ 2 _ _ Rr_8.out
  have xr := heap_lt Rr_8.out
  go_wp2
  refine bodyPost_ret (v := .tuple #[.agg #[.bool false, .slice none 0 0, .int .i64 0], .int .i64 3]) (by simp [results, Tryd.results44, go_sem, fr0, fr1, fr2]) rfl ?_
  
  subst hZ
  exact zero_ye (fin3 L8.out Rr_8.out noint3 Gr).1

theorem dcmp0 {A : Option Addr} {c : Nat} {m x q : Int} {w : World} (h : Dg w A c (digs m.natAbs)) (hl : (digs m.natAbs).length ≤ 400000) (r1 : Rt m x) (hq : cmpd (dv m x) 0 = q) :
    Calls Tryd.prog 28 #[.agg #[.bool (decide (m < 0)), .slice A (digs m.natAbs).length c, .int .i64 x], .agg #[.bool false, .slice none 0 0, .int .i64 0]] w fun e w' => e = .returned (.int .i64 q) ∧ Below w.heap.size w w' := by
  have e : digs (0 : Int).natAbs = [] := digs_zero
  have := dcmp_any (n := 0) (y := 0) (B := none) (d := 0) h (by rw [e]; exact Dg.nil_ _ _) hl (by rw [e]; simp) r1 ⟨.inl ⟨rfl, rfl⟩, by omega, by omega⟩ (q := q) (by rw [dv_zero]; exact hq)
  rw [e] at this
  exact this
end Go.Proofs.YtnfafgpnnpapdaaDoor
end

section
/-
  dyad.Half.
-/
namespace Go.Proofs.YtnfafgpnnpapdaaDoor
open Go.RowKit
set_option linter.unusedSimpArgs false
set_option linter.unusedVariables false
set_option maxHeartbeats 4000000 in
set_option maxRecDepth 100000 in
theorem half_u (x u : Int) (w : World) (hT : T32 w) (h0 : -65537 ≤ x) (h1 : x ≤ 65535) (hu : u = 1):
    Calls Tryd.prog 22 #[.int .i64 x] w fun e w' => Yr u x w e w' := by
  have FR : ∀ W, Calls Tryd.prog 50 #[.int .i64 1] W fun e w' => Zr u W e w' := fun W => by subst hu; exact zfrom_any 1 W (by omega) (by omega)
  have FR := Lib.hid FR
  have LN := Lib.hid (show (digs u.natAbs).length ≤ 2 from digs_small (by omega))
  have hI : inR u x = true := by
    subst hu
    have e : bl 1 = 1 := by decide +kernel
    unfold inR
    rw [decide_eq_true_eq, e]
    right
    omega
  have MY := Lib.hid (fun W A c (hW : Dg W A c (digs u.natAbs)) hT => make_yes A c (decide (u < 0)) (digs u.natAbs) x u x W hW (Nat.le_trans LN.out (by omega)) hT (by omega) (by omega) (by rw [sg_dz, hu]; exact (nm_odd rfl).1) (by rw [sg_dz, hu]; exact (nm_odd rfl).2 x) hI)
  have HT := Lib.hid hT
  clear hT
  have L0 := Lib.hid (live_start w)
  clear hu h0 h1 hI
  go_enter Tryd.func22, Tryd.ntmps22
  go_wp2_with fail
  obtain ⟨v1, hW⟩ : ∃ W : World, W = (w.alloc (.cells #[.bool false, .slice none 0 0, .int .i64 0] 26)) := ⟨_, rfl⟩
  rw [← hW]
  have hb : Below w.heap.size w v1 := by rw [hW]; exact ((Below.refl _ _).alloc (by simp <;> omega) _)
  have L1 := Lib.hid (L0.out.step hb)
  have Rr_1 := Lib.hid (show v1.heap[w.heap.size]? = some (.cells #[.bool false, .slice none 0 0, .int .i64 0] 26 (0, 0)) by rw [hW]; have := heap_alloc_new w (.cells #[.bool false, .slice none 0 0, .int .i64 0] 26); simpa using this)
  have Gr : w.heap.size ≤ w.heap.size := by have := L0.out.1.size; omega
  clear hW hb
  refine (FR.out _).mono ?_
  rintro e w2 ⟨A2, c2, rfl, hd, hb⟩
  have L2 := Lib.hid ((L1.out.step hb).add hd)
  have Rr_2 := Lib.hid (cells_of Rr_1.out hb)
  clear hb hd
  go_wp2_with fail
  refine (MY.out _ A2 c2 (L2.out.get (A := A2) (c := c2) (xs := digs u.natAbs) (by simp)) (t32_live HT.out L2.out)).mono ?_
  rintro e w3 ⟨A3, c3, rfl, hd, hb⟩
  have L3 := Lib.hid ((L2.out.step hb).add hd)
  have Rr_3 := Lib.hid (cells_of Rr_2.out hb)
  clear hb hd
  have fr0 := row_c (i := 0) Rr_3.out rfl
  have zr0 := frozen_of_row _ _ 0 _ _ Rr_3.out
  have fr1 := row_c (i := 1) Rr_3.out rfl
  have zr1 := frozen_of_row _ _ 1 _ _ Rr_3.out
  have fr2 := row_c (i := 2) Rr_3.out rfl
  have zr2 := frozen_of_row _ _ 2 _ _ Rr_3.out
  have xr := heap_lt Rr_3.out
  go_wp2
  have al : ∀ (V : World) (o : Obj) (i : Nat), w.heap.size < V.heap.size → (V.alloc o).cell? ⟨w.heap.size, i, none⟩ = V.cell? ⟨w.heap.size, i, none⟩ := fun V o i h => (below1 V o).cell (p := ⟨_, i, none⟩) h
  refine bodyPost_ret (v := .agg #[.bool (decide (u < 0)), .slice A3 (digs u.natAbs).length c3, .int .i64 x]) (by simp [results, Tryd.results22, go_sem, al, xr, fr0, fr1, fr2]) rfl ?_
  refine ⟨A3, c3, rfl, ?_, ?_⟩
  · exact ((fin3 L3.out Rr_3.out noint3 Gr).step (below1 _ _)).get (A := A3) (c := c3) (xs := digs u.natAbs) (by simp)
  · exact ((fin3 L3.out Rr_3.out noint3 Gr).step (below1 _ _)).1
end Go.Proofs.YtnfafgpnnpapdaaDoor
end
