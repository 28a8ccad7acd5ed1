import Derived.Test.YtnfafgpnnpapdaaDoorMB6
import Derived.Test.YtnfafgpnnpapdaaDoorMB3
import Derived.Test.YtnfafgpnnpapdaaDoorMB2
import Derived.Test.YtnfafgpnnpapdaaDoorMB1
import Derived.Test.YtnfafgpnnpapdaaDoorMB4
section
/-
  dyad.Div.
-/
namespace Go.Proofs.YtnfafgpnnpapdaaDoor
open Go.RowKit
set_option linter.unusedSimpArgs false
set_option linter.unusedVariables false
theorem blen_mul_lo {q n N a b : Nat} (hn : n < 2 ^ b) (hN : 2 ^ (a + b) ≤ N) (hq : N < (q + 1) * n) : 2 ^ a ≤ q := by
  rcases Nat.lt_or_ge q (2 ^ a) with h | h
  · exfalso
    have h1 : (q + 1) * n ≤ 2 ^ a * 2 ^ b := Nat.mul_le_mul h (Nat.le_of_lt hn)
    rw [← Nat.pow_add] at h1
    omega
  · exact h
theorem div_kept {m n x y : Int} {k p : Nat} {up more : Bool} (m0 : m ≠ 0) (n0 : n ≠ 0) (p1 : 1 ≤ p) (hk : p + blen n.natAbs ≤ blen m.natAbs + k) (hm : more = decide (m.natAbs * 2 ^ k % n.natAbs ≠ 0)) :
    p ≤ blen (m.natAbs * 2 ^ k / n.natAbs) ∧ RdOf (dv m x / dv n y) p up (nm (sg (decide (m < 0) != decide (n < 0)) (kept (m.natAbs * 2 ^ k / n.natAbs) p more (up != (decide (m < 0) != decide (n < 0))))))
      (nx (sg (decide (m < 0) != decide (n < 0)) (kept (m.natAbs * 2 ^ k / n.natAbs) p more (up != (decide (m < 0) != decide (n < 0))))) (x - y - k + (blen (m.natAbs * 2 ^ k / n.natAbs) - p : Nat))) := by
  have hna : 0 < n.natAbs := by omega
  have e1 : m.natAbs * 2 ^ k = m.natAbs * 2 ^ k / n.natAbs * n.natAbs + m.natAbs * 2 ^ k % n.natAbs := by
    have := Nat.div_add_mod (m.natAbs * 2 ^ k) n.natAbs
    rw [Nat.mul_comm] at this; exact this.symm
  have e2 : m.natAbs * 2 ^ k % n.natAbs < n.natAbs := Nat.mod_lt _ hna
  have hN : 2 ^ (p - 1 + blen n.natAbs) ≤ m.natAbs * 2 ^ k := by
    have ⟨a, _, c⟩ := blen_bd m.natAbs (by omega)
    refine Nat.le_trans (Nat.pow_le_pow_right (by omega) (show p - 1 + blen n.natAbs ≤ blen m.natAbs - 1 + k by omega)) ?_
    rw [Nat.pow_add]; exact Nat.mul_le_mul_right _ a
  have hb : 0 < dv (n.natAbs : Int) y := dv_pos.2 (by omega)
  have hbn : dv (n.natAbs : Int) y ≠ 0 := by grind
  have ha : dv (m.natAbs : Int) x = dv ((m.natAbs * 2 ^ k : Nat) : Int) (x - k) := by
    have := dv_pow (m.natAbs : Int) k (x - k)
    rw [show x - (k : Int) + k = x by omega] at this
    rw [← this]; congr 1
  have hrb : dv (m.natAbs : Int) x / dv (n.natAbs : Int) y * dv (n.natAbs : Int) y = dv (m.natAbs : Int) x := Rat.div_mul_cancel hbn
  have hsign : dv m x / dv n y = if (decide (m < 0) != decide (n < 0)) = true then -(dv (m.natAbs : Int) x / dv (n.natAbs : Int) y) else dv (m.natAbs : Int) x / dv (n.natAbs : Int) y := by
    have hd0 : dv n y ≠ 0 := fun h => n0 (dv_eq0.1 h)
    have key : ∀ X : Rat, X * dv n y = dv m x → dv m x / dv n y = X := fun X h => by rw [← h]; exact Rat.mul_div_cancel hd0
    apply key
    rw [dv_sign m x, dv_sign n y]
    generalize dv (m.natAbs : Int) x / dv (n.natAbs : Int) y = r at *
    generalize dv (m.natAbs : Int) x = a at *
    generalize dv (n.natAbs : Int) y = b at *
    rcases decide (m < 0) <;> rcases decide (n < 0) <;> simp <;> grind
  generalize m.natAbs * 2 ^ k / n.natAbs = Q at *
  generalize m.natAbs * 2 ^ k % n.natAbs = R at *
  have hQ : 2 ^ (p - 1) ≤ Q := by
    have ⟨_, b, _⟩ := blen_bd n.natAbs (by omega)
    refine blen_mul_lo b hN ?_
    rw [e1, Nat.add_mul, Nat.one_mul]; omega
  have hpb : p ≤ blen Q := by
    have h1 := blen_uniq (n := 2 ^ (p - 1)) (k := p - 1) (Nat.le_refl _) (Nat.pow_lt_pow_right (by omega) (by omega))
    have := blen_mono hQ
    omega
  refine ⟨hpb, ?_⟩
  rw [hsign]
  have hQb : dv (Q : Int) (x - y - k) * dv (n.natAbs : Int) y = dv ((Q * n.natAbs : Nat) : Int) (x - k) := by
    rw [dv_mul]; congr 1; omega
  have hQb1 : dv (Q + 1 : Int) (x - y - k) * dv (n.natAbs : Int) y = dv (((Q + 1) * n.natAbs : Nat) : Int) (x - k) := by
    rw [dv_mul]; congr 1; omega
  refine rd_kept hpb p1 ?_ ?_ ?_
  · refine Rat.le_of_mul_le_mul_right ?_ hb
    rw [hrb, hQb, ha, dv_le]
    exact_mod_cast (by omega : Q * n.natAbs ≤ m.natAbs * 2 ^ k)
  · refine Rat.lt_of_mul_lt_mul_right ?_ (Rat.le_of_lt hb)
    rw [hrb, hQb1, ha, dv_lt]
    have : m.natAbs * 2 ^ k < (Q + 1) * n.natAbs := by rw [e1, Nat.add_mul, Nat.one_mul]; omega
    exact_mod_cast this
  · rw [hm, decide_eq_decide]
    have h3 : dv (m.natAbs : Int) x / dv (n.natAbs : Int) y = dv (Q : Int) (x - y - k) ↔ R = 0 := by
      constructor
      · intro h
        rw [h, hQb, ha] at hrb
        have := dv_inj hrb
        have h4 : Q * n.natAbs = m.natAbs * 2 ^ k := by exact_mod_cast this
        omega
      · intro h
        have h4 : Q * n.natAbs = m.natAbs * 2 ^ k := by omega
        rw [ha, ← h4, ← hQb]
        exact Rat.mul_div_cancel hbn
    exact (not_congr h3).symm
theorem divmod_d {A B : Option Addr} {c d N n : Nat} {w : World} (h : Dg w A c (digs N)) (h' : Dg w B d (digs n)) (hl : (digs N).length ≤ 1000000) (hl' : (digs n).length ≤ 1000000) (n0 : n ≠ 0) :
    Calls Tryd.prog 86 #[.slice A (digs N).length c, .slice B (digs n).length d] w fun e w' => ∃ A' c' B' d', e = .returned (.tuple #[.slice A' (digs (N / n)).length c', .slice B' (digs (N % n)).length d', .bool true]) ∧ Dg w' A' c' (digs (N / n)) ∧ Dg w' B' d' (digs (N % n)) ∧ Below w.heap.size w w' := by
  have := divmod_any A B c d (digs N) (digs n) w h h' hl hl' (by rw [val_digs]; exact n0)
  rw [val_digs, val_digs] at this; exact this
theorem lift_n {A : Option Addr} {c q N : Nat} {k : Int} {kn : Nat} {w : World} (h : Dg w A c (digs q)) (hl : (digs q).length ≤ 500000) (hk : k = (kn : Int)) (h1 : kn ≤ 1000000) (hN : q * 2 ^ kn = N) :
    Calls Tryd.prog 87 #[.slice A (digs q).length c, .int .i64 k] w fun e w' => ∃ A' c', e = .returned (.slice A' (digs N).length c') ∧ Dg w' A' c' (digs N) ∧ Below w.heap.size w w' := by
  subst hk
  have := lift_any A c (digs q) kn w h hl h1
  rw [val_digs, hN] at this
  exact this
theorem up_len {q k : Nat} (hl : (digs q).length ≤ 10000) (hk : k ≤ 330000) : (digs (q * 2 ^ k)).length ≤ 21000 := by
  have h1 := bl_bd (m := (q : Int)) (k := 10000) (by rw [Int.natAbs_natCast]; exact hl)
  have h2 := len_bl ((q * 2 ^ k : Nat) : Int)
  rw [Int.natAbs_natCast] at h1 h2
  unfold bl at h2
  rw [Int.natAbs_natCast] at h2
  by_cases h0 : q = 0
  · subst h0; rw [Nat.zero_mul] at h2 ⊢; rw [digs_zero]; simp
  · rw [blen_up h0] at h2; omega

set_option maxHeartbeats 4000000 in
set_option maxRecDepth 100000 in
theorem div_z_ (A B : Option Addr) (c d : Nat) (m n x y : Int) (P M E : Int) (up : Bool) (w : World) (h : Dg w A c (digs m.natAbs)) (h' : Dg w B d (digs n.natAbs)) (hl : (digs m.natAbs).length ≤ 10000) (hl' : (digs n.natAbs).length ≤ 10000) (r1 : Rt m x) (r2 : Rt n y) (hT : T32 w) {p : Nat} (hP : (p : Int) = P) (p2 : 2 ≤ p) (p4 : p ≤ 400) (n0 : n ≠ 0) (hs : RdOf (dv m x / dv n y) p up M E) (hq : inR M E = true) (m0 : m = 0):
    Calls Tryd.prog 42 #[.agg #[.bool (decide (m < 0)), .slice A (digs m.natAbs).length c, .int .i64 x], .agg #[.bool (decide (n < 0)), .slice B (digs n.natAbs).length d, .int .i64 y], .int .i64 P, .bool up] w fun e w' => Ye M E 0 w e w' := by
  have HR1 := Lib.hid r1
  have HR2 := Lib.hid r2
  have lx := Lib.hid hl
  have ly := Lib.hid hl'
  have HQ := Lib.hid hq
  have x0 := r1.2.1
  have x1 := r1.2.2
  have y0 := r2.2.1
  have y1 := r2.2.2
  have LM := Lib.hid (inr_len hq)
  have HPR := Lib.hid (precB_in (P := P) (by omega) (by omega))
  have D2 := Lib.hid (show decide (n = 0) = false by simp [n0])
  have D1 := Lib.hid (show decide (m = 0) = true by simp [m0])
  obtain ⟨rfl, rfl⟩ := RdOf.uniq (M := m) (E := x) ⟨r1.1, .inl ⟨by rw [m0, dv_zero, Rat.div_def, Rat.zero_mul], m0⟩⟩ hs
  have HT := Lib.hid hT
  clear hT
  have L0 := Lib.hid (((live_start w).add h).add h')
  clear h h' hl hl' r1 r2 hs hq hP n0 m0
  go_enter Tryd.func42, Tryd.ntmps42
  go_wp2_with fail
  obtain ⟨v1, hW⟩ : ∃ W : World, W = ((((w.alloc (.cells #[.bool (decide (m < 0)), .slice A (digs m.natAbs).length c, .int .i64 x] 26)).alloc (.cells #[.bool (decide (n < 0)), .slice B (digs n.natAbs).length d, .int .i64 y] 26)).alloc (.cells #[.bool false, .slice none 0 0, .int .i64 0] 26)).alloc (.cells #[.bool (decide (m < 0)), .slice A (digs m.natAbs).length c, .int .i64 x, .bool (decide (n < 0)), .slice B (digs n.natAbs).length d, .int .i64 y] 26)) := ⟨_, rfl⟩
  rw [← hW]
  have hb : Below w.heap.size w v1 := by rw [hW]; exact (((((Below.refl _ _).alloc (by simp <;> omega) _).alloc (by simp <;> omega) _).alloc (by simp <;> omega) _).alloc (by simp <;> omega) _)
  have L1 := Lib.hid (L0.out.step hb)
  have Rx_1 := Lib.hid (show v1.heap[w.heap.size]? = some (.cells #[.bool (decide (m < 0)), .slice A (digs m.natAbs).length c, .int .i64 x] 26 (0, 0)) by rw [hW]; have := heap_alloc_new w (.cells #[.bool (decide (m < 0)), .slice A (digs m.natAbs).length c, .int .i64 x] 26); rw [heap_alloc_old _ _ (by simp <;> omega)]; rw [heap_alloc_old _ _ (by simp <;> omega)]; rw [heap_alloc_old _ _ (by simp <;> omega)]; simpa using this)
  have Gx : w.heap.size ≤ w.heap.size := by have := L0.out.1.size; omega
  have Ry_1 := Lib.hid (show v1.heap[w.heap.size + 1]? = some (.cells #[.bool (decide (n < 0)), .slice B (digs n.natAbs).length d, .int .i64 y] 26 (0, 0)) by rw [hW]; have := heap_alloc_new (w.alloc (.cells #[.bool (decide (m < 0)), .slice A (digs m.natAbs).length c, .int .i64 x] 26)) (.cells #[.bool (decide (n < 0)), .slice B (digs n.natAbs).length d, .int .i64 y] 26); rw [heap_alloc_old _ _ (by simp <;> omega)]; rw [heap_alloc_old _ _ (by simp <;> omega)]; simpa using this)
  have Gy : w.heap.size ≤ w.heap.size + 1 := by have := L0.out.1.size; omega
  have Nxy : w.heap.size < w.heap.size + 1 := by omega
  have Rr_1 := Lib.hid (show v1.heap[w.heap.size + 1 + 1]? = some (.cells #[.bool false, .slice none 0 0, .int .i64 0] 26 (0, 0)) by rw [hW]; have := heap_alloc_new ((w.alloc (.cells #[.bool (decide (m < 0)), .slice A (digs m.natAbs).length c, .int .i64 x] 26)).alloc (.cells #[.bool (decide (n < 0)), .slice B (digs n.natAbs).length d, .int .i64 y] 26)) (.cells #[.bool false, .slice none 0 0, .int .i64 0] 26); rw [heap_alloc_old _ _ (by simp <;> omega)]; simpa using this)
  have Gr : w.heap.size ≤ w.heap.size + 1 + 1 := by have := L0.out.1.size; omega
  have Nxr : w.heap.size < w.heap.size + 1 + 1 := by omega
  have Nyr : w.heap.size + 1 < w.heap.size + 1 + 1 := by omega
  have Rsl_1 := Lib.hid (show v1.heap[w.heap.size + 1 + 1 + 1]? = some (.cells #[.bool (decide (m < 0)), .slice A (digs m.natAbs).length c, .int .i64 x, .bool (decide (n < 0)), .slice B (digs n.natAbs).length d, .int .i64 y] 26 (0, 0)) by rw [hW]; have := heap_alloc_new (((w.alloc (.cells #[.bool (decide (m < 0)), .slice A (digs m.natAbs).length c, .int .i64 x] 26)).alloc (.cells #[.bool (decide (n < 0)), .slice B (digs n.natAbs).length d, .int .i64 y] 26)).alloc (.cells #[.bool false, .slice none 0 0, .int .i64 0] 26)) (.cells #[.bool (decide (m < 0)), .slice A (digs m.natAbs).length c, .int .i64 x, .bool (decide (n < 0)), .slice B (digs n.natAbs).length d, .int .i64 y] 26); simpa using this)
  have Gsl : w.heap.size ≤ w.heap.size + 1 + 1 + 1 := by have := L0.out.1.size; omega
  have Nxsl : w.heap.size < w.heap.size + 1 + 1 + 1 := by omega
  have Nysl : w.heap.size + 1 < w.heap.size + 1 + 1 + 1 := by omega
  have Nrsl : w.heap.size + 1 + 1 < w.heap.size + 1 + 1 + 1 := by omega
  clear hW hb
  refine (begin_2 Rsl_1.out (L1.out.get (A := A) (c := c) (xs := digs m.natAbs) (by simp)) (L1.out.get (A := B) (c := d) (xs := digs n.natAbs) (by simp)) (dyR_num HR1.out) (dyR_num HR2.out) (Nat.le_trans lx.out (by omega)) (Nat.le_trans ly.out (by omega)) (k := 0) rfl).mono ?_
  rintro e w2 ⟨rfl, hb⟩
  have L2 := Lib.hid (L1.out.step hb)
  have Rx_2 := Lib.hid (cells_of Rx_1.out hb)
  have Ry_2 := Lib.hid (cells_of Ry_1.out hb)
  have Rr_2 := Lib.hid (cells_of Rr_1.out hb)
  have Rsl_2 := Lib.hid (cells_of Rsl_1.out hb)
  clear hb 
  go_wp2_with fail
  obtain ⟨w3, hW⟩ : ∃ W : World, W = (w2.alloc (.cells #[.int .i64 0] 79)) := ⟨_, rfl⟩
  rw [← hW]
  have hb : Below w2.heap.size w2 w3 := by rw [hW]; exact ((Below.refl _ _).alloc (by simp <;> omega) _)
  have L3 := Lib.hid (L2.out.step hb)
  have Rx_3 := Lib.hid (cells_of Rx_2.out hb)
  have Ry_3 := Lib.hid (cells_of Ry_2.out hb)
  have Rr_3 := Lib.hid (cells_of Rr_2.out hb)
  have Rsl_3 := Lib.hid (cells_of Rsl_2.out hb)
  have Rk_3 := Lib.hid (show w3.heap[w2.heap.size]? = some (.cells #[.int .i64 0] 79 (0, 0)) by rw [hW]; have := heap_alloc_new w2 (.cells #[.int .i64 0] 79); simpa using this)
  have Gk : w.heap.size ≤ w2.heap.size := by have := L2.out.1.size; omega
  have Nxk : w.heap.size < w2.heap.size := by have := heap_lt Rx_2.out; omega
  have Nyk : w.heap.size + 1 < w2.heap.size := by have := heap_lt Ry_2.out; omega
  have Nrk : w.heap.size + 1 + 1 < w2.heap.size := by have := heap_lt Rr_2.out; omega
  have Nslk : w.heap.size + 1 + 1 + 1 < w2.heap.size := by have := heap_lt Rsl_2.out; omega
  clear hW hb
  refine (precision_no _ 0 P _ (row_c Rk_3.out (i := 0) rfl) (.inl HPR.out)).mono ?_
  rintro e w4 ⟨rfl, rfl⟩
  have fy0 := row_c (i := 0) Ry_3.out rfl
  have zy0 := frozen_of_row _ _ 0 _ _ Ry_3.out
  have fy1 := row_c (i := 1) Ry_3.out rfl
  have zy1 := frozen_of_row _ _ 1 _ _ Ry_3.out
  have fy2 := row_c (i := 2) Ry_3.out rfl
  have zy2 := frozen_of_row _ _ 2 _ _ Ry_3.out
  have xy := heap_lt Ry_3.out
  go_wp2_with fail
  refine (isz_d (x := y) D2.out).mono ?_
  rintro e w5 ⟨rfl, hb⟩
  have L5 := Lib.hid (L3.out.step hb)
  clear fy0 zy0 fy1 zy1 fy2 zy2 xy
  have Rx_5 := Lib.hid (cells_of Rx_3.out hb)
  have Ry_5 := Lib.hid (cells_of Ry_3.out hb)
  have Rr_5 := Lib.hid (cells_of Rr_3.out hb)
  have Rsl_5 := Lib.hid (cells_of Rsl_3.out hb)
  have Rk_5 := Lib.hid (cells_of Rk_3.out hb)
  clear hb 
  go_wp2_with fail
  refine (tell_no _ 0 3 false _ (row_c Rk_5.out (i := 0) rfl) (.inl rfl)).mono ?_
  rintro e w6 ⟨rfl, rfl⟩
  go_wp2_with fail
  refine (fails_any _ 0 false _ (row_c Rk_5.out (i := 0) rfl) rfl).mono ?_
  rintro e w7 ⟨rfl, rfl⟩
  have fx0 := row_c (i := 0) Rx_5.out rfl
  have zx0 := frozen_of_row _ _ 0 _ _ Rx_5.out
  have fx1 := row_c (i := 1) Rx_5.out rfl
  have zx1 := frozen_of_row _ _ 1 _ _ Rx_5.out
  have fx2 := row_c (i := 2) Rx_5.out rfl
  have zx2 := frozen_of_row _ _ 2 _ _ Rx_5.out
  have xx := heap_lt Rx_5.out
  go_wp2_with fail
  refine (isz_d (x := x) D1.out).mono ?_
  rintro e w8 ⟨rfl, hb⟩
  have L8 := Lib.hid (L5.out.step hb)
  clear fx0 zx0 fx1 zx1 fx2 zx2 xx
  have Rx_8 := Lib.hid (cells_of Rx_5.out hb)
  have Ry_8 := Lib.hid (cells_of Ry_5.out hb)
  have Rr_8 := Lib.hid (cells_of Rr_5.out hb)
  have Rsl_8 := Lib.hid (cells_of Rsl_5.out hb)
  have Rk_8 := Lib.hid (cells_of Rk_5.out hb)
  clear hb 
  have fx0 := row_c (i := 0) Rx_8.out rfl
  have zx0 := frozen_of_row _ _ 0 _ _ Rx_8.out
  have fx1 := row_c (i := 1) Rx_8.out rfl
  have zx1 := frozen_of_row _ _ 1 _ _ Rx_8.out
  have fx2 := row_c (i := 2) Rx_8.out rfl
  have zx2 := frozen_of_row _ _ 2 _ _ Rx_8.out
  have xx := heap_lt Rx_8.out
  go_wp2_with fail
  refine (answer_d (row_c Rk_8.out (i := 0) rfl) (heap_lt Rk_8.out) (L8.out.get (A := A) (c := c) (xs := digs m.natAbs) (by simp)) (Nat.le_trans LM.out (by omega)) HQ.out).mono ?_
  rintro e w9 ⟨A9, c9, rfl, hd, hb⟩
  have L9 := Lib.hid ((L8.out.step hb).add hd)
  clear fx0 zx0 fx1 zx1 fx2 zx2 xx
  have Rx_9 := Lib.hid (cells_of Rx_8.out hb)
  have Ry_9 := Lib.hid (cells_of Ry_8.out hb)
  have Rr_9 := Lib.hid (cells_of Rr_8.out hb)
  have Rsl_9 := Lib.hid (cells_of Rsl_8.out hb)
  have Rk_9 := Lib.hid (cells_of Rk_8.out hb)
  clear hb hd
  have fr0 := row_c (i := 0) Rr_9.out rfl
  have zr0 := frozen_of_row _ _ 0 _ _ Rr_9.out
  have fr1 := row_c (i := 1) Rr_9.out rfl
  have zr1 := frozen_of_row _ _ 1 _ _ Rr_9.out
  have fr2 := row_c (i := 2) Rr_9.out rfl
  have zr2 := frozen_of_row _ _ 2 _ _ Rr_9.out
  have xr := heap_lt Rr_9.out
  go_wp2
  refine bodyPost_ret (v := .tuple #[.agg #[.bool (decide (m < 0)), .slice A9 (digs m.natAbs).length c9, .int .i64 x], .int .i64 0]) (by simp [results, Tryd.results42, go_sem, fr0, fr1, fr2]) rfl ?_
  
  refine ⟨A9, c9, rfl, ?_, ?_⟩
  · exact (fin3 L9.out Rr_9.out noint3 Gr).get (A := A9) (c := c9) (xs := digs m.natAbs) (by simp)
  · exact (fin3 L9.out Rr_9.out noint3 Gr).1

set_option maxHeartbeats 4000000 in
set_option maxRecDepth 100000 in
theorem div_b_ (A B : Option Addr) (c d : Nat) (m n x y : Int) (P M E : Int) (up : Bool) (w : World) (h : Dg w A c (digs m.natAbs)) (h' : Dg w B d (digs n.natAbs)) (hl : (digs m.natAbs).length ≤ 10000) (hl' : (digs n.natAbs).length ≤ 10000) (r1 : Rt m x) (r2 : Rt n y) (hT : T32 w) {p : Nat} (hP : (p : Int) = P) (p2 : 2 ≤ p) (p4 : p ≤ 400) (n0 : n ≠ 0) (hs : RdOf (dv m x / dv n y) p up M E) (hq : inR M E = true) (m0 : m ≠ 0):
    Calls Tryd.prog 42 #[.agg #[.bool (decide (m < 0)), .slice A (digs m.natAbs).length c, .int .i64 x], .agg #[.bool (decide (n < 0)), .slice B (digs n.natAbs).length d, .int .i64 y], .int .i64 P, .bool up] w fun e w' => Ye M E 0 w e w' := by
  have HR1 := Lib.hid r1
  have HR2 := Lib.hid r2
  have lx := Lib.hid hl
  have ly := Lib.hid hl'
  have HQ := Lib.hid hq
  have x0 := r1.2.1
  have x1 := r1.2.2
  have y0 := r2.2.1
  have y1 := r2.2.2
  have LM := Lib.hid (inr_len hq)
  have HPR := Lib.hid (precB_in (P := P) (by omega) (by omega))
  have D2 := Lib.hid (show decide (n = 0) = false by simp [n0])
  have D1 := Lib.hid (show decide (m = 0) = false by simp [m0])
  have b1 := bl_bd hl
  have b2 := bl_bd hl'
  obtain ⟨z1, hz1⟩ : ∃ z : Int, (blen m.natAbs : Int) = z := ⟨_, rfl⟩
  obtain ⟨z2, hz2⟩ : ∃ z : Int, (blen n.natAbs : Int) = z := ⟨_, rfl⟩
  obtain ⟨kn, hkn⟩ : ∃ k : Nat, k = (max 0 (P + z2 - z1)).toNat := ⟨_, rfl⟩
  obtain ⟨k, hk⟩ : ∃ k : Int, max 0 (P + z2 - z1) = k := ⟨_, rfl⟩
  have hkk : k = (kn : Int) := by omega
  have hkb : kn ≤ 330000 := by omega
  have hkp : p + blen n.natAbs ≤ blen m.natAbs + kn := by omega
  have hlN := up_len (q := m.natAbs) hl hkb
  obtain ⟨t, ht⟩ : ∃ t, (decide (m < 0) != decide (n < 0)) = t := ⟨_, rfl⟩
  obtain ⟨mo, hmo⟩ : ∃ t, decide (m.natAbs * 2 ^ kn % n.natAbs ≠ 0) = t := ⟨_, rfl⟩
  have hkept := div_kept (m := m) (n := n) (x := x) (y := y) (k := kn) (p := p) (up := up) (more := mo) m0 n0 (by omega) hkp hmo.symm
  rw [ht] at hkept
  have hu := RdOf.uniq hkept.2 hs
  have HB := Lib.hid hkept.1
  obtain ⟨N, hN⟩ : ∃ N, m.natAbs * 2 ^ kn = N := ⟨_, rfl⟩
  rw [hN] at hlN hu HB hmo
  have hlQ := digs_len_mono _ _ (Nat.div_le_self N n.natAbs)
  have HMO := Lib.hid (show decide (0 < (digs (N % n.natAbs)).length) = mo by rw [← hmo, decide_eq_decide]; have := @digs_nil (N % n.natAbs); omega)
  obtain ⟨Q, hQ⟩ : ∃ Q, N / n.natAbs = Q := ⟨_, rfl⟩
  obtain ⟨R, hR⟩ : ∃ R, N % n.natAbs = R := ⟨_, rfl⟩
  rw [hQ] at hu HB hlQ
  rw [hR] at HMO
  have DM := Lib.hid (fun (A B : Option Addr) (c d : Nat) W (h : Dg W A c (digs N)) (h' : Dg W B d (digs n.natAbs)) => divmod_d h h' (by omega) (by omega) (by omega))
  rw [hQ, hR] at DM
  have HM := Lib.hid hu.1
  have HE := Lib.hid (show nx (sg t (kept Q p mo (up != t))) (x - y - k + (blen Q - p : Nat)) = E by rw [hkk]; exact hu.2)
  have HN := Lib.hid hN
  have HKK := Lib.hid hkk
  have HKB := Lib.hid (show kn ≤ 1000000 by omega)
  have HP2 := Lib.hid hP
  have HZ1 := Lib.hid hz1
  have HZ2 := Lib.hid hz2
  have LQ := Lib.hid (show (digs Q).length ≤ 30000 by omega)
  have LN := Lib.hid hlN
  obtain ⟨s1, hs1⟩ : ∃ s, P + z2 = s := ⟨_, rfl⟩
  obtain ⟨s2, hs2⟩ : ∃ s, s1 - z1 = s := ⟨_, rfl⟩
  have ws1 : IntKind.i64.wrap (P + z2) = s1 := by rw [IntWalk.i64_in _ (by omega)]; exact hs1
  have ws2 : IntKind.i64.wrap (s1 - z1) = s2 := by rw [IntWalk.i64_in _ (by omega)]; exact hs2
  have hmax : max 0 s2 = k := by rw [← hk, ← hs2, ← hs1]
  have k0 : 0 ≤ k := by omega
  have k9 : k ≤ 330000 := by omega
  have HT2 := Lib.hid ht
  have HT := Lib.hid hT
  clear hT
  have L0 := Lib.hid (((live_start w).add h).add h')
  clear h h' hl hl' r1 r2 hs hq hP n0 m0 hz1 hz2 hkn hk hkk hkb hkp hlN ht hmo hkept hu hN hlQ hQ hR hs1 hs2 b1 b2
  go_enter Tryd.func42, Tryd.ntmps42
  go_wp2_with fail
  obtain ⟨v1, hW⟩ : ∃ W : World, W = ((((w.alloc (.cells #[.bool (decide (m < 0)), .slice A (digs m.natAbs).length c, .int .i64 x] 26)).alloc (.cells #[.bool (decide (n < 0)), .slice B (digs n.natAbs).length d, .int .i64 y] 26)).alloc (.cells #[.bool false, .slice none 0 0, .int .i64 0] 26)).alloc (.cells #[.bool (decide (m < 0)), .slice A (digs m.natAbs).length c, .int .i64 x, .bool (decide (n < 0)), .slice B (digs n.natAbs).length d, .int .i64 y] 26)) := ⟨_, rfl⟩
  rw [← hW]
  have hb : Below w.heap.size w v1 := by rw [hW]; exact (((((Below.refl _ _).alloc (by simp <;> omega) _).alloc (by simp <;> omega) _).alloc (by simp <;> omega) _).alloc (by simp <;> omega) _)
  have L1 := Lib.hid (L0.out.step hb)
  have Rx_1 := Lib.hid (show v1.heap[w.heap.size]? = some (.cells #[.bool (decide (m < 0)), .slice A (digs m.natAbs).length c, .int .i64 x] 26 (0, 0)) by rw [hW]; have := heap_alloc_new w (.cells #[.bool (decide (m < 0)), .slice A (digs m.natAbs).length c, .int .i64 x] 26); rw [heap_alloc_old _ _ (by simp <;> omega)]; rw [heap_alloc_old _ _ (by simp <;> omega)]; rw [heap_alloc_old _ _ (by simp <;> omega)]; simpa using this)
  have Gx : w.heap.size ≤ w.heap.size := by have := L0.out.1.size; omega
  have Ry_1 := Lib.hid (show v1.heap[w.heap.size + 1]? = some (.cells #[.bool (decide (n < 0)), .slice B (digs n.natAbs).length d, .int .i64 y] 26 (0, 0)) by rw [hW]; have := heap_alloc_new (w.alloc (.cells #[.bool (decide (m < 0)), .slice A (digs m.natAbs).length c, .int .i64 x] 26)) (.cells #[.bool (decide (n < 0)), .slice B (digs n.natAbs).length d, .int .i64 y] 26); rw [heap_alloc_old _ _ (by simp <;> omega)]; rw [heap_alloc_old _ _ (by simp <;> omega)]; simpa using this)
  have Gy : w.heap.size ≤ w.heap.size + 1 := by have := L0.out.1.size; omega
  have Nxy : w.heap.size < w.heap.size + 1 := by omega
  have Rr_1 := Lib.hid (show v1.heap[w.heap.size + 1 + 1]? = some (.cells #[.bool false, .slice none 0 0, .int .i64 0] 26 (0, 0)) by rw [hW]; have := heap_alloc_new ((w.alloc (.cells #[.bool (decide (m < 0)), .slice A (digs m.natAbs).length c, .int .i64 x] 26)).alloc (.cells #[.bool (decide (n < 0)), .slice B (digs n.natAbs).length d, .int .i64 y] 26)) (.cells #[.bool false, .slice none 0 0, .int .i64 0] 26); rw [heap_alloc_old _ _ (by simp <;> omega)]; simpa using this)
  have Gr : w.heap.size ≤ w.heap.size + 1 + 1 := by have := L0.out.1.size; omega
  have Nxr : w.heap.size < w.heap.size + 1 + 1 := by omega
  have Nyr : w.heap.size + 1 < w.heap.size + 1 + 1 := by omega
  have Rsl_1 := Lib.hid (show v1.heap[w.heap.size + 1 + 1 + 1]? = some (.cells #[.bool (decide (m < 0)), .slice A (digs m.natAbs).length c, .int .i64 x, .bool (decide (n < 0)), .slice B (digs n.natAbs).length d, .int .i64 y] 26 (0, 0)) by rw [hW]; have := heap_alloc_new (((w.alloc (.cells #[.bool (decide (m < 0)), .slice A (digs m.natAbs).length c, .int .i64 x] 26)).alloc (.cells #[.bool (decide (n < 0)), .slice B (digs n.natAbs).length d, .int .i64 y] 26)).alloc (.cells #[.bool false, .slice none 0 0, .int .i64 0] 26)) (.cells #[.bool (decide (m < 0)), .slice A (digs m.natAbs).length c, .int .i64 x, .bool (decide (n < 0)), .slice B (digs n.natAbs).length d, .int .i64 y] 26); simpa using this)
  have Gsl : w.heap.size ≤ w.heap.size + 1 + 1 + 1 := by have := L0.out.1.size; omega
  have Nxsl : w.heap.size < w.heap.size + 1 + 1 + 1 := by omega
  have Nysl : w.heap.size + 1 < w.heap.size + 1 + 1 + 1 := by omega
  have Nrsl : w.heap.size + 1 + 1 < w.heap.size + 1 + 1 + 1 := by omega
  clear hW hb
  refine (begin_2 Rsl_1.out (L1.out.get (A := A) (c := c) (xs := digs m.natAbs) (by simp)) (L1.out.get (A := B) (c := d) (xs := digs n.natAbs) (by simp)) (dyR_num HR1.out) (dyR_num HR2.out) (Nat.le_trans lx.out (by omega)) (Nat.le_trans ly.out (by omega)) (k := 0) rfl).mono ?_
  rintro e w2 ⟨rfl, hb⟩
  have L2 := Lib.hid (L1.out.step hb)
  have Rx_2 := Lib.hid (cells_of Rx_1.out hb)
  have Ry_2 := Lib.hid (cells_of Ry_1.out hb)
  have Rr_2 := Lib.hid (cells_of Rr_1.out hb)
  have Rsl_2 := Lib.hid (cells_of Rsl_1.out hb)
  clear hb 
  go_wp2_with fail
  obtain ⟨w3, hW⟩ : ∃ W : World, W = (w2.alloc (.cells #[.int .i64 0] 79)) := ⟨_, rfl⟩
  rw [← hW]
  have hb : Below w2.heap.size w2 w3 := by rw [hW]; exact ((Below.refl _ _).alloc (by simp <;> omega) _)
  have L3 := Lib.hid (L2.out.step hb)
  have Rx_3 := Lib.hid (cells_of Rx_2.out hb)
  have Ry_3 := Lib.hid (cells_of Ry_2.out hb)
  have Rr_3 := Lib.hid (cells_of Rr_2.out hb)
  have Rsl_3 := Lib.hid (cells_of Rsl_2.out hb)
  have Rk_3 := Lib.hid (show w3.heap[w2.heap.size]? = some (.cells #[.int .i64 0] 79 (0, 0)) by rw [hW]; have := heap_alloc_new w2 (.cells #[.int .i64 0] 79); simpa using this)
  have Gk : w.heap.size ≤ w2.heap.size := by have := L2.out.1.size; omega
  have Nxk : w.heap.size < w2.heap.size := by have := heap_lt Rx_2.out; omega
  have Nyk : w.heap.size + 1 < w2.heap.size := by have := heap_lt Ry_2.out; omega
  have Nrk : w.heap.size + 1 + 1 < w2.heap.size := by have := heap_lt Rr_2.out; omega
  have Nslk : w.heap.size + 1 + 1 + 1 < w2.heap.size := by have := heap_lt Rsl_2.out; omega
  clear hW hb
  refine (precision_no _ 0 P _ (row_c Rk_3.out (i := 0) rfl) (.inl HPR.out)).mono ?_
  rintro e w4 ⟨rfl, rfl⟩
  have fy0 := row_c (i := 0) Ry_3.out rfl
  have zy0 := frozen_of_row _ _ 0 _ _ Ry_3.out
  have fy1 := row_c (i := 1) Ry_3.out rfl
  have zy1 := frozen_of_row _ _ 1 _ _ Ry_3.out
  have fy2 := row_c (i := 2) Ry_3.out rfl
  have zy2 := frozen_of_row _ _ 2 _ _ Ry_3.out
  have xy := heap_lt Ry_3.out
  go_wp2_with fail
  refine (isz_d (x := y) D2.out).mono ?_
  rintro e w5 ⟨rfl, hb⟩
  have L5 := Lib.hid (L3.out.step hb)
  clear fy0 zy0 fy1 zy1 fy2 zy2 xy
  have Rx_5 := Lib.hid (cells_of Rx_3.out hb)
  have Ry_5 := Lib.hid (cells_of Ry_3.out hb)
  have Rr_5 := Lib.hid (cells_of Rr_3.out hb)
  have Rsl_5 := Lib.hid (cells_of Rsl_3.out hb)
  have Rk_5 := Lib.hid (cells_of Rk_3.out hb)
  clear hb 
  go_wp2_with fail
  refine (tell_no _ 0 3 false _ (row_c Rk_5.out (i := 0) rfl) (.inl rfl)).mono ?_
  rintro e w6 ⟨rfl, rfl⟩
  go_wp2_with fail
  refine (fails_any _ 0 false _ (row_c Rk_5.out (i := 0) rfl) rfl).mono ?_
  rintro e w7 ⟨rfl, rfl⟩
  have fx0 := row_c (i := 0) Rx_5.out rfl
  have zx0 := frozen_of_row _ _ 0 _ _ Rx_5.out
  have fx1 := row_c (i := 1) Rx_5.out rfl
  have zx1 := frozen_of_row _ _ 1 _ _ Rx_5.out
  have fx2 := row_c (i := 2) Rx_5.out rfl
  have zx2 := frozen_of_row _ _ 2 _ _ Rx_5.out
  have xx := heap_lt Rx_5.out
  go_wp2_with fail
  refine (isz_d (x := x) D1.out).mono ?_
  rintro e w8 ⟨rfl, hb⟩
  have L8 := Lib.hid (L5.out.step hb)
  clear fx0 zx0 fx1 zx1 fx2 zx2 xx
  have Rx_8 := Lib.hid (cells_of Rx_5.out hb)
  have Ry_8 := Lib.hid (cells_of Ry_5.out hb)
  have Rr_8 := Lib.hid (cells_of Rr_5.out hb)
  have Rsl_8 := Lib.hid (cells_of Rsl_5.out hb)
  have Rk_8 := Lib.hid (cells_of Rk_5.out hb)
  clear hb 
  have fx0 := row_c (i := 0) Rx_8.out rfl
  have zx0 := frozen_of_row _ _ 0 _ _ Rx_8.out
  have fx1 := row_c (i := 1) Rx_8.out rfl
  have zx1 := frozen_of_row _ _ 1 _ _ Rx_8.out
  have fx2 := row_c (i := 2) Rx_8.out rfl
  have zx2 := frozen_of_row _ _ 2 _ _ Rx_8.out
  have xx := heap_lt Rx_8.out
  have fy0 := row_c (i := 0) Ry_8.out rfl
  have zy0 := frozen_of_row _ _ 0 _ _ Ry_8.out
  have fy1 := row_c (i := 1) Ry_8.out rfl
  have zy1 := frozen_of_row _ _ 1 _ _ Ry_8.out
  have fy2 := row_c (i := 2) Ry_8.out rfl
  have zy2 := frozen_of_row _ _ 2 _ _ Ry_8.out
  have xy := heap_lt Ry_8.out
  go_wp2_with fail
  clear fx0 zx0 fx1 zx1 fx2 zx2 xx fy0 zy0 fy1 zy1 fy2 zy2 xy
  have fx0 := row_c (i := 0) Rx_8.out rfl
  have zx0 := frozen_of_row _ _ 0 _ _ Rx_8.out
  have fx1 := row_c (i := 1) Rx_8.out rfl
  have zx1 := frozen_of_row _ _ 1 _ _ Rx_8.out
  have fx2 := row_c (i := 2) Rx_8.out rfl
  have zx2 := frozen_of_row _ _ 2 _ _ Rx_8.out
  have xx := heap_lt Rx_8.out
  have fy0 := row_c (i := 0) Ry_8.out rfl
  have zy0 := frozen_of_row _ _ 0 _ _ Ry_8.out
  have fy1 := row_c (i := 1) Ry_8.out rfl
  have zy1 := frozen_of_row _ _ 1 _ _ Ry_8.out
  have fy2 := row_c (i := 2) Ry_8.out rfl
  have zy2 := frozen_of_row _ _ 2 _ _ Ry_8.out
  have xy := heap_lt Ry_8.out
  have KD := Lib.hid (bd0 w8)
  have LD := Lib.hid (L8.out.step KD.out)
  go_region_held3 (fun w' => ∀ b o, b < w8.heap.size → w'.cell? ⟨b, o, none⟩ = w8.cell? ⟨b, o, none⟩)
    (first | with_reducible exact (bcell KD.out).1)
    (first
      | (go_at_call_of 64 B; (with_reducible refine (bits_b (LD.out.get (A := B) (c := d) (xs := digs n.natAbs) (by simp)) (Nat.le_trans ly.out (by omega)) HZ2.out).mono ?_); rintro e w10 ⟨rfl, rfl⟩)
      | (go_at_call_of 64 A; (with_reducible refine (bits_b (LD.out.get (A := A) (c := c) (xs := digs m.natAbs) (by simp)) (Nat.le_trans lx.out (by omega)) HZ1.out).mono ?_); rintro e w11 ⟨rfl, rfl⟩))
  rename_i hHeld
  clear hHeld
  clear fx0 zx0 fx1 zx1 fx2 zx2 xx fy0 zy0 fy1 zy1 fy2 zy2 xy
  clear KD LD
  obtain ⟨w12, hW⟩ : ∃ W : World, W = w8.drew := ⟨_, rfl⟩
  rw [← hW]
  have hb : Below w8.heap.size w8 w12 := by rw [hW]; exact bd0 _
  have L12 := Lib.hid (L8.out.step hb)
  have Rx_12 := Lib.hid (cells_of Rx_8.out hb)
  have Ry_12 := Lib.hid (cells_of Ry_8.out hb)
  have Rr_12 := Lib.hid (cells_of Rr_8.out hb)
  have Rsl_12 := Lib.hid (cells_of Rsl_8.out hb)
  have Rk_12 := Lib.hid (cells_of Rk_8.out hb)
  clear hW hb
  clear ws1 ws2 hmax
  have fx0 := row_c (i := 0) Rx_12.out rfl
  have zx0 := frozen_of_row _ _ 0 _ _ Rx_12.out
  have fx1 := row_c (i := 1) Rx_12.out rfl
  have zx1 := frozen_of_row _ _ 1 _ _ Rx_12.out
  have fx2 := row_c (i := 2) Rx_12.out rfl
  have zx2 := frozen_of_row _ _ 2 _ _ Rx_12.out
  have xx := heap_lt Rx_12.out
  have fy0 := row_c (i := 0) Ry_12.out rfl
  have zy0 := frozen_of_row _ _ 0 _ _ Ry_12.out
  have fy1 := row_c (i := 1) Ry_12.out rfl
  have zy1 := frozen_of_row _ _ 1 _ _ Ry_12.out
  have fy2 := row_c (i := 2) Ry_12.out rfl
  have zy2 := frozen_of_row _ _ 2 _ _ Ry_12.out
  have xy := heap_lt Ry_12.out
  go_wp2_with fail
  clear fx0 zx0 fx1 zx1 fx2 zx2 xx fy0 zy0 fy1 zy1 fy2 zy2 xy
  have fx0 := row_c (i := 0) Rx_12.out rfl
  have zx0 := frozen_of_row _ _ 0 _ _ Rx_12.out
  have fx1 := row_c (i := 1) Rx_12.out rfl
  have zx1 := frozen_of_row _ _ 1 _ _ Rx_12.out
  have fx2 := row_c (i := 2) Rx_12.out rfl
  have zx2 := frozen_of_row _ _ 2 _ _ Rx_12.out
  have xx := heap_lt Rx_12.out
  have fy0 := row_c (i := 0) Ry_12.out rfl
  have zy0 := frozen_of_row _ _ 0 _ _ Ry_12.out
  have fy1 := row_c (i := 1) Ry_12.out rfl
  have zy1 := frozen_of_row _ _ 1 _ _ Ry_12.out
  have fy2 := row_c (i := 2) Ry_12.out rfl
  have zy2 := frozen_of_row _ _ 2 _ _ Ry_12.out
  have xy := heap_lt Ry_12.out
  have KD := Lib.hid (bd0 w12)
  have LD := Lib.hid (L12.out.step KD.out)
  go_region_held3 (fun w' => ∀ b o, b < w12.heap.size → w'.cell? ⟨b, o, none⟩ = w12.cell? ⟨b, o, none⟩)
    (first | with_reducible exact (bcell KD.out).1 | with_reducible exact (bcell K14.out).1 | with_reducible exact (bcell K15.out).1)
    (first
      | (go_at_call 87; (with_reducible refine (lift_n (N := N) (LD.out.get (A := A) (c := c) (xs := digs m.natAbs) (by simp)) (Nat.le_trans lx.out (by omega)) HKK.out HKB.out HN.out).mono ?_); rintro e w14 ⟨A14, c14, rfl, hd, hb⟩; (have K14 := Lib.hid (KD.out.trans (hb.mono KD.out.size))); (have L14 := Lib.hid ((LD.out.step hb).add hd)); clear hb hd)
      | (go_at_call 86; (with_reducible refine (DM.out _ _ _ _ _ (L14.out.get (A := A14) (c := c14) (xs := digs N) (by simp)) (L14.out.get (A := B) (c := d) (xs := digs n.natAbs) (by simp))).mono ?_); rintro e w15 ⟨A15, c15, B15, d15, rfl, hd, hd', hb⟩; (have K15 := Lib.hid (K14.out.trans (hb.mono K14.out.size))); (have L15 := Lib.hid (((L14.out.step hb).add hd).add hd')); clear hb hd hd'))
  rename_i hHeld
  clear hHeld
  clear fx0 zx0 fx1 zx1 fx2 zx2 xx fy0 zy0 fy1 zy1 fy2 zy2 xy
  have Rx_15 := Lib.hid (cells_of Rx_12.out K15.out)
  have Ry_15 := Lib.hid (cells_of Ry_12.out K15.out)
  have Rr_15 := Lib.hid (cells_of Rr_12.out K15.out)
  have Rsl_15 := Lib.hid (cells_of Rsl_12.out K15.out)
  have Rk_15 := Lib.hid (cells_of Rk_12.out K15.out)
  clear KD LD
  have HT3 : (!(decide (m < 0) == decide (n < 0))) = t := HT2.out
  have HMO2 := HMO.out
  have fx0 := row_c (i := 0) Rx_15.out rfl
  have zx0 := frozen_of_row _ _ 0 _ _ Rx_15.out
  have fx1 := row_c (i := 1) Rx_15.out rfl
  have zx1 := frozen_of_row _ _ 1 _ _ Rx_15.out
  have fx2 := row_c (i := 2) Rx_15.out rfl
  have zx2 := frozen_of_row _ _ 2 _ _ Rx_15.out
  have xx := heap_lt Rx_15.out
  have fy0 := row_c (i := 0) Ry_15.out rfl
  have zy0 := frozen_of_row _ _ 0 _ _ Ry_15.out
  have fy1 := row_c (i := 1) Ry_15.out rfl
  have zy1 := frozen_of_row _ _ 1 _ _ Ry_15.out
  have fy2 := row_c (i := 2) Ry_15.out rfl
  have zy2 := frozen_of_row _ _ 2 _ _ Ry_15.out
  have xy := heap_lt Ry_15.out
  go_wp2_with fail
  obtain ⟨w16, hW⟩ : ∃ W : World, W = (w15.alloc (.cells #[.bool t, .slice A15 (digs Q).length c15, .int .i64 (x - y - k)] 26)) := ⟨_, rfl⟩
  rw [← hW]
  have hb : Below w15.heap.size w15 w16 := by rw [hW]; exact ((Below.refl _ _).alloc (by simp <;> omega) _)
  have L16 := Lib.hid (L15.out.step hb)
  have Rx_16 := Lib.hid (cells_of Rx_15.out hb)
  have Ry_16 := Lib.hid (cells_of Ry_15.out hb)
  have Rr_16 := Lib.hid (cells_of Rr_15.out hb)
  have Rsl_16 := Lib.hid (cells_of Rsl_15.out hb)
  have Rk_16 := Lib.hid (cells_of Rk_15.out hb)
  have Rq_16 := Lib.hid (show w16.heap[w15.heap.size]? = some (.cells #[.bool t, .slice A15 (digs Q).length c15, .int .i64 (x - y - k)] 26 (0, 0)) by rw [hW]; have := heap_alloc_new w15 (.cells #[.bool t, .slice A15 (digs Q).length c15, .int .i64 (x - y - k)] 26); simpa using this)
  have Gq : w.heap.size ≤ w15.heap.size := by have := L15.out.1.size; omega
  have Nxq : w.heap.size < w15.heap.size := by have := heap_lt Rx_15.out; omega
  have Nyq : w.heap.size + 1 < w15.heap.size := by have := heap_lt Ry_15.out; omega
  have Nrq : w.heap.size + 1 + 1 < w15.heap.size := by have := heap_lt Rr_15.out; omega
  have Nslq : w.heap.size + 1 + 1 + 1 < w15.heap.size := by have := heap_lt Rsl_15.out; omega
  have Nkq : w2.heap.size < w15.heap.size := by have := heap_lt Rk_15.out; omega
  clear hW hb
  clear fx0 zx0 fx1 zx1 fx2 zx2 xx fy0 zy0 fy1 zy1 fy2 zy2 xy
  refine (cut_any A15 c15 t up mo Q (x - y - k) P p M E _ (L16.out.get (A := A15) (c := c15) (xs := digs Q) (by simp)) LQ.out (t32_live HT.out L16.out) HP2.out p2 p4 HB.out (by omega) (by omega) HM.out HE.out).mono ?_
  rintro e w17 ⟨A17, c17, rfl, hd, hb⟩
  have L17 := Lib.hid ((L16.out.step hb).add hd)
  have Rx_17 := Lib.hid (cells_of Rx_16.out hb)
  have Ry_17 := Lib.hid (cells_of Ry_16.out hb)
  have Rr_17 := Lib.hid (cells_of Rr_16.out hb)
  have Rsl_17 := Lib.hid (cells_of Rsl_16.out hb)
  have Rk_17 := Lib.hid (cells_of Rk_16.out hb)
  have Rq_17 := Lib.hid (cells_of Rq_16.out hb)
  clear hb hd
  clear HT3 HMO2
  go_wp2_with fail
  refine (answer_d (row_c Rk_17.out (i := 0) rfl) (heap_lt Rk_17.out) (L17.out.get (A := A17) (c := c17) (xs := digs M.natAbs) (by simp)) (Nat.le_trans LM.out (by omega)) HQ.out).mono ?_
  rintro e w18 ⟨A18, c18, rfl, hd, hb⟩
  have L18 := Lib.hid ((L17.out.step hb).add hd)
  have Rx_18 := Lib.hid (cells_of Rx_17.out hb)
  have Ry_18 := Lib.hid (cells_of Ry_17.out hb)
  have Rr_18 := Lib.hid (cells_of Rr_17.out hb)
  have Rsl_18 := Lib.hid (cells_of Rsl_17.out hb)
  have Rk_18 := Lib.hid (cells_of Rk_17.out hb)
  have Rq_18 := Lib.hid (cells_of Rq_17.out hb)
  clear hb hd
  have fr0 := row_c (i := 0) Rr_18.out rfl
  have zr0 := frozen_of_row _ _ 0 _ _ Rr_18.out
  have fr1 := row_c (i := 1) Rr_18.out rfl
  have zr1 := frozen_of_row _ _ 1 _ _ Rr_18.out
  have fr2 := row_c (i := 2) Rr_18.out rfl
  have zr2 := frozen_of_row _ _ 2 _ _ Rr_18.out
  have xr := heap_lt Rr_18.out
  go_wp2
  refine bodyPost_ret (v := .tuple #[.agg #[.bool (decide (M < 0)), .slice A18 (digs M.natAbs).length c18, .int .i64 E], .int .i64 0]) (by simp [results, Tryd.results42, go_sem, fr0, fr1, fr2]) rfl ?_
  
  refine ⟨A18, c18, rfl, ?_, ?_⟩
  · exact (fin3 L18.out Rr_18.out noint3 Gr).get (A := A18) (c := c18) (xs := digs M.natAbs) (by simp)
  · exact (fin3 L18.out Rr_18.out noint3 Gr).1
end Go.Proofs.YtnfafgpnnpapdaaDoor
end

section
/-
  quo.Gcd.
-/
namespace Go.Proofs.YtnfafgpnnpapdaaDoor
open Go.RowKit
theorem gcd_step (x g : Nat) : Nat.gcd g (x % g) = Nat.gcd x g := by
  rw [Nat.gcd_comm x g, Nat.gcd_rec g x, Nat.gcd_comm g]
section
variable {w0 w w' : World} {L : List (Option Addr × Nat × List Nat)} {A B : Option Addr} {c d n m : Nat} {xs ys : List Nat} {x y : Nat}
end
end Go.Proofs.YtnfafgpnnpapdaaDoor
end

section
/-
  Plain arithmetic of the root.
-/
namespace Go.Proofs.YtnfafgpnnpapdaaDoor
/-- The greatest number whose square is not above n. -/
def rt (n : Nat) : Nat := if h : n = 0 then 0 else if (2 * rt (n / 4) + 1) * (2 * rt (n / 4) + 1) ≤ n then 2 * rt (n / 4) + 1 else 2 * rt (n / 4)
termination_by n
decreasing_by all_goals omega
theorem sq_lt {a b : Nat} (h : a * a < b * b) : a < b := by
  rcases Nat.lt_or_ge a b with h1 | h1
  · exact h1
  · have := Nat.mul_le_mul h1 h1; omega
theorem rt_step (n : Nat) (h : n ≠ 0) : rt n = if (2 * rt (n / 4) + 1) * (2 * rt (n / 4) + 1) ≤ n then 2 * rt (n / 4) + 1 else 2 * rt (n / 4) := by
  rw [rt]; simp [h]
theorem rt_spec (n : Nat) : rt n * rt n ≤ n ∧ n < (rt n + 1) * (rt n + 1) := by
  induction n using Nat.strongRecOn with
  | ind n ih =>
    by_cases h : n = 0
    · subst h; rw [rt]; simp
    · obtain ⟨h1, h2⟩ := ih (n / 4) (by omega)
      rw [rt_step n h]
      generalize rt (n / 4) = r at *
      have e1 : (2 * r) * (2 * r) = 4 * (r * r) := by rw [Nat.mul_mul_mul_comm]
      have e2 : (2 * r + 1 + 1) * (2 * r + 1 + 1) = 4 * ((r + 1) * (r + 1)) := by rw [show 2 * r + 1 + 1 = 2 * (r + 1) by omega, Nat.mul_mul_mul_comm]
      split
      · exact ⟨by assumption, by rw [e2]; omega⟩
      · exact ⟨by rw [e1]; omega, by omega⟩
theorem rt_is {n s : Nat} (h1 : s * s ≤ n) (h2 : n < (s + 1) * (s + 1)) : s = rt n := by
  obtain ⟨h3, h4⟩ := rt_spec n
  have := sq_lt (Nat.lt_of_le_of_lt h1 h4)
  have := sq_lt (Nat.lt_of_le_of_lt h3 h2)
  omega
theorem rt_le {n s : Nat} (h : n < (s + 1) * (s + 1)) : rt n ≤ s := by
  have := sq_lt (Nat.lt_of_le_of_lt (rt_spec n).1 h); omega
theorem four_le (a b : Nat) : 4 * (a * b) ≤ (a + b) * (a + b) := by
  rcases Nat.le_total a b with h | h
  · obtain ⟨c, rfl⟩ := Nat.exists_eq_add_of_le h
    have : (a + (a + c)) * (a + (a + c)) = 4 * (a * (a + c)) + c * c := by
      simp only [Nat.mul_add, Nat.add_mul, Nat.mul_comm c a]; omega
    omega
  · obtain ⟨c, rfl⟩ := Nat.exists_eq_add_of_le h
    have : (b + c + b) * (b + c + b) = 4 * ((b + c) * b) + c * c := by
      simp only [Nat.mul_add, Nat.add_mul, Nat.mul_comm c b]; omega
    omega
/-- Newton's step stays above the root. -/
theorem newton {n s t : Nat} (hs : 0 < s) (ht : t = (s + n / s) / 2) : n < (t + 1) * (t + 1) := by
  have h1 := Nat.div_add_mod n s
  have h2 := Nat.mod_lt n hs
  have h3 := four_le s (n / s + 1)
  have h4 : s * (n / s + 1) = s * (n / s) + s := by rw [Nat.mul_add, Nat.mul_one]
  generalize n / s = q at *
  have h5 : s + (q + 1) ≤ 2 * (t + 1) := by omega
  have h6 := Nat.mul_le_mul h5 h5
  rw [Nat.mul_mul_mul_comm] at h6
  omega
theorem newton_end {n s t : Nat} (hs : 0 < s) (ht : t = (s + n / s) / 2) (h : s ≤ t) : s * s ≤ n := by
  have h1 : s ≤ n / s := by omega
  exact (Nat.le_div_iff_mul_le hs).1 h1
theorem rt_pos {n : Nat} (h : n ≠ 0) : 0 < rt n := by
  rcases Nat.eq_zero_or_pos (rt n) with h0 | h0
  · have := (rt_spec n).2; rw [h0] at this; omega
  · exact h0
end Go.Proofs.YtnfafgpnnpapdaaDoor
end

section
/-
  quo.root, above, Sqrt.
-/
namespace Go.Proofs.YtnfafgpnnpapdaaDoor
open Go.RowKit
/-- What above answers. -/
def Abv (w : World) (x : Nat) (e : Ending) (w' : World) : Prop := ∃ A' c' u, e = .returned (.slice A' (digs u).length c') ∧ Dg w' A' c' (digs u) ∧ Below w.heap.size w w' ∧ x < (u + 1) * (u + 1) ∧ 0 < u ∧ (digs u).length ≤ 600000
set_option maxHeartbeats 4000000 in
set_option maxRecDepth 100000 in
theorem root_of (A : Option Addr) (c : Nat) (xs : List Nat) (w : World) (h : Dg w A c xs) (hl : xs.length ≤ 500000) (ex : digs (val xs) = xs)
    (ha : 0 < xs.length → Calls Tryd.prog 147 #[.slice A xs.length c] w fun e w' => Abv w (val xs) e w') :
    Calls Tryd.prog 129 #[.slice A xs.length c] w fun e w' => ∃ A' c', e = .returned (.slice A' (digs (rt (val xs))).length c') ∧ Dg w' A' c' (digs (rt (val xs))) ∧ Below w.heap.size w w' := by
  rcases Nat.eq_zero_or_pos xs.length with h0 | h0
  · obtain rfl : xs = [] := List.eq_nil_of_length_eq_zero h0
    have e0 : rt (val []) = 0 := by simp only [val]; rw [rt]; simp
    clear ha ex h
    go_enter Tryd.func129, Tryd.ntmps129
    go_wp2
    go_ret
    rw [e0, digs_zero]
    exact ⟨none, 0, rfl, Dg.nil_ _ _, Below.refl _ _⟩
  · have t0 : ((xs.length : Int) == 0) = false := beq_eq_false_iff_ne.2 (by omega)
    have x0 : val xs ≠ 0 := fun e => by rw [e, digs_zero] at ex; have := congrArg List.length ex; simp at this; omega
    have HA := Lib.hid (ha h0)
    have H := Lib.hid h
    have X0 := Lib.hid x0
    obtain ⟨x, hx⟩ : ∃ x, val xs = x := ⟨_, rfl⟩
    have HX := Lib.hid hx
    clear h ha x0 ex
    go_enter Tryd.func129, Tryd.ntmps129
    go_wp2_with fail
    refine HA.out.mono ?_
    rintro e w1 ⟨A1, c1, u, rfl, g1, g2, g3, g4, g5⟩
    rw [hx] at g3
    have G1 := Lib.hid g1
    have G2 := Lib.hid g2
    have G3 := Lib.hid g3
    have G4 := Lib.hid g4
    have G5 := Lib.hid g5
    clear g1 g2 g3 g4 g5 hx
    go_wp2
    go_loopg [3] u (fun g s wr => ∃ (A3 : Option Addr) (c3 : Nat), s = .slice A3 (digs g).length c3 ∧ Hid (0 < g) ∧ Hid (x < (g + 1) * (g + 1)) ∧ (digs g).length ≤ 600000 ∧ Hid (Dg wr A3 c3 (digs g)) ∧ Hid (Below w.heap.size w wr))
    case atStart => exact ⟨A1, c1, rfl, G4.out, G3.out, G5.out, G1.out, G2.out⟩
    case round =>
      obtain ⟨A3, c3, rfl, P0, P1, b1, D1, HB⟩ := hrel
      have L0 := Lib.hid (((live_start wr).add (H.out.below HB.out)).add D1.out)
      go_wp2_with fail
      refine Calls.mono (divmod_l (xs := xs) (ys := digs gk) (x := x) (y := gk) L0.out (by simp) (by simp) rfl rfl HX.out (val_digs _) (by omega) (by omega) (by have := P0.out; omega)) ?_
      rintro e w2 ⟨A4, c4, A5, c5, rfl, h1⟩
      have L1 := Lib.hid h1
      clear h1
      have l1 : (digs (x / gk)).length ≤ 500000 := Nat.le_trans (digs_len_mono _ _ (Nat.div_le_self x gk)) (by rw [← HX.out]; have := digs_len_le H.out.2.1; omega)
      have l2 := digs_add_len gk (x / gk)
      go_wp2_with fail
      refine Calls.mono (add_l (xs := digs gk) (ys := digs (x / gk)) (x := gk) (y := x / gk) L1.out (by simp) (by simp) rfl rfl (val_digs _) (val_digs _) (by omega) (by omega)) ?_
      rintro e w3 ⟨A6, c6, rfl, h1⟩
      have L2 := Lib.hid h1
      clear h1
      go_wp2_with fail
      refine Calls.mono (shr_l (xs := digs (gk + x / gk)) (x := gk + x / gk) (i := 1) (k := 1) L2.out (by simp) rfl (val_digs _) (by omega) rfl (by omega)) ?_
      rintro e w4 ⟨A7, c7, rfl, h1⟩
      rw [Nat.pow_one] at h1
      rw [Nat.pow_one]
      have L3 := Lib.hid h1
      clear h1
      obtain ⟨t, ht⟩ : ∃ t, (gk + x / gk) / 2 = t := ⟨_, rfl⟩
      rw [ht] at L3
      rw [ht]
      have HT := Lib.hid ht
      have l3 : (digs t).length ≤ (digs (gk + x / gk)).length := digs_len_mono _ _ (by omega)
      clear ht
      obtain ⟨q, hq⟩ : ∃ q : Int, cmpi t gk = q := ⟨_, rfl⟩
      have HC := Lib.hid hq
      go_wp2_with fail
      refine Calls.mono (cmp_l (xs := digs t) (ys := digs gk) (x := t) (y := gk) L3.out (by simp) (by simp) rfl rfl (val_digs _) (val_digs _) (by omega) (by omega) HC.out) ?_
      rintro e w5 ⟨rfl, h1⟩
      have L4 := Lib.hid h1
      clear h1
      rcases Nat.lt_or_ge t gk with hlt | hge
      · have d0 : decide (0 ≤ q) = false := by rw [← hq, cmpi_lt hlt]; rfl
        have HLT := Lib.hid hlt
        clear hq hlt
        go_wp2
        go_roundg t
        case measure => exact HLT.out
        case rel =>
          have hn := newton P0.out HT.out.symm
          have hp : 0 < t := Nat.lt_of_lt_of_le (rt_pos (by rw [← HX.out]; exact X0.out)) (rt_le hn)
          exact ⟨A7, c7, rfl, hp, hn, Nat.le_trans (digs_len_mono _ _ (Nat.le_of_lt HLT.out)) b1, L4.out.get (by simp), HB.out.trans (L4.out.1.mono HB.out.size)⟩
      · have d0 : decide (0 ≤ q) = true := by
          rw [← hq]
          rcases Nat.eq_or_lt_of_le hge with e | e
          · rw [cmpi_eq e.symm]; rfl
          · rw [cmpi_gt e]; rfl
        have HS := Lib.hid (rt_is (newton_end P0.out HT.out.symm hge) P1.out)
        clear hq hge
        go_wp2
        go_ret
        rw [HX.out, ← HS.out]
        exact ⟨A3, c3, rfl, L4.out.get (by simp), HB.out.trans (L4.out.1.mono HB.out.size)⟩
theorem two_pow_half (b : Nat) : 2 ^ b ≤ 2 ^ ((b + 1) / 2) * 2 ^ ((b + 1) / 2) := by
  rw [← Nat.pow_add]; exact Nat.pow_le_pow_right (by omega) (by omega)
theorem sq_up {x u : Nat} (h : x < u * u) : x < (u + 1) * (u + 1) := Nat.lt_of_lt_of_le h (Nat.mul_le_mul (by omega) (by omega))
set_option maxHeartbeats 4000000 in
set_option maxRecDepth 100000 in
theorem above_small (A : Option Addr) (c : Nat) (xs : List Nat) (w : World) (h : Dg w A c xs) (hl : xs.length < 4) :
    Calls Tryd.prog 147 #[.slice A xs.length c] w fun e w' => Abv w (val xs) e w' := by
  have L0 := Lib.hid ((live_start w).add h)
  have hb : blen (val xs) ≤ 32 * xs.length := bits_le _ _ (by have := val_lt h.2.1; rwa [show (4294967296 : Nat) ^ xs.length = 2 ^ (32 * xs.length) by rw [Nat.pow_mul]] at this)
  have hB := Lib.hid (blen_lt (val xs))
  have t0 : ((xs.length : Int) / 4 == 0) = true := by rw [beq_iff_eq]; omega
  have t1 : (xs.length : Int) / 4 = 0 := by omega
  clear h
  go_enter Tryd.func147, Tryd.ntmps147
  go_wp2_with fail
  have Ln := Lib.hid (L0.out.new1 1 1 rfl (by omega))
  refine Calls.mono (bits_l (xs := xs) (x := val xs) Ln.out (by simp) rfl rfl (by omega) rfl) ?_
  rintro e w1 ⟨rfl, h1⟩
  have L1 := Lib.hid h1
  clear h1
  go_wp2_with fail
  refine Calls.mono (shl_l (xs := [1]) (x := 1) (k := (blen (val xs) + 1) / 2) L1.out (by simp) rfl (by simp [val]) (by simp) (by omega) (by omega)) ?_
  rw [Nat.one_mul]
  rintro e w2 ⟨A2, c2, rfl, h1⟩
  have L2 := Lib.hid h1
  clear h1
  have hlen := pow_digs_len ((blen (val xs) + 1) / 2)
  go_wp2
  go_ret
  exact ⟨A2, c2, 2 ^ ((blen (val xs) + 1) / 2), rfl, L2.out.get (by simp), L2.out.1, sq_up (Nat.lt_of_lt_of_le hB.out (two_pow_half _)), Nat.pow_pos (by omega), by omega⟩
theorem own_row {w : World} {base g : Nat} {ys : List Nat} (h : Row w g ys) (hb : base ≤ g) (hm : ys.length ≤ maxLen) : w.ownsRow base 67 1 (.slice (some ⟨g, 0, none⟩) ys.length ys.length) ys.length (cells ys) :=
  ⟨by simp [cells], .inr ⟨g, ys.length, (cells ys).toArray, rfl, hb, h, Nat.le_refl _, hm, by simp [cells], by rw [Nat.mul_one, List.take_of_length_le (by simp [cells])]⟩⟩
theorem digs_lift (k u : Nat) (hu : u ≠ 0) : digs (4294967296 ^ k * u) = List.replicate k 0 ++ digs u := by
  have e : val (List.replicate k 0 ++ digs u) = 4294967296 ^ k * u := by rw [val_append, val_zeros, List.length_replicate, val_digs]; omega
  rw [← e]
  refine digs_val (fun x hx => ?_) (fun x hx => ?_)
  · rcases List.mem_append.1 hx with hx | hx
    · exact ok_zeros k x hx
    · exact ok_digs u x hx
  · rw [List.getLast?_append] at hx
    rcases hd : (digs u).getLast? with _ | z
    · exfalso; rw [List.getLast?_eq_none_iff] at hd; exact hu (digs_nil.1 (by rw [hd]; rfl))
    · rw [hd] at hx; simp at hx; subst hx; exact last_digs hd
set_option maxHeartbeats 4000000 in
set_option maxRecDepth 100000 in
theorem above_big (b off c k h r : Nat) (xs : List Nat) (w : World) (hl : xs.length ≤ 500000) (hk : xs.length / 4 = k) (hk0 : 0 < k) (hh : 2 * k = h) (hc : xs.length ≤ c)
    (HR : Hid (Calls Tryd.prog 129 #[.slice (some ⟨b, off + h, none⟩) (xs.length - h) (c - h)] w fun e w' => ∃ A' c', e = .returned (.slice A' (digs r).length c') ∧ Dg w' A' c' (digs r) ∧ Below w.heap.size w w'))
    (hr : (digs r).length ≤ 500000 - k) (hx : Hid (val xs < 4294967296 ^ k * (r + 1) * (4294967296 ^ k * (r + 1)))) :
    Calls Tryd.prog 147 #[.slice (some ⟨b, off, none⟩) xs.length c] w fun e w' => Abv w (val xs) e w' := by
  have i1 : (xs.length : Int) / 4 = (k : Int) := by omega
  have i2 : (2 : Int) * (k : Int) = (h : Int) := by omega
  have i3 : ((k : Int) == 0) = false := beq_eq_false_iff_ne.2 (by omega)
  have i4 : h ≤ xs.length := by omega
  have i5 : ¬ (c = h) := by omega
  have i6 : k ≤ 125000 := by omega
  have hmk := run_make_row' (P := Tryd.prog) 22 67 (.int .u32 0) 4 Tryd.underlying22 elem_info rfl .i64 .i64 k (by omega) (by omega)
  obtain ⟨i0, hi, hz0, hz1, hz2⟩ := info_parts elem_info
  clear hk hh
  go_enter Tryd.func147, Tryd.ntmps147
  go_wp2_with fail
  refine HR.out.mono ?_
  rintro e w1 ⟨A1, c1, rfl, g1, g2⟩
  have L1 := Lib.hid (show Live w w1 [(A1, c1, digs r)] from (show Live w w1 [] from ⟨g2, fun t ht => by simp at ht⟩).add g1)
  clear g1 g2
  go_wp2_with fail
  have Ln := Lib.hid (L1.out.new1 1 1 rfl (by omega))
  refine Calls.mono (add_l (xs := digs r) (ys := [1]) (x := r) (y := 1) Ln.out (by simp) (by simp) rfl rfl (val_digs _) (by simp [val]) (by omega) (by simp)) ?_
  rintro e w2 ⟨A2, c2, rfl, h1⟩
  have D2 := Lib.hid (show Dg w2 A2 c2 (digs (r + 1)) from h1.get (by simp))
  have B2 := Lib.hid h1.1
  clear h1
  have hd0 : 0 < (digs (r + 1)).length := by
    rcases Nat.eq_zero_or_pos (digs (r + 1)).length with h0 | h0
    · have := digs_nil.1 h0; omega
    · exact h0
  have hdl := digs_add_len r 1
  have hd1 := digs_small (n := 1) (by omega)
  have HD := Lib.hid (digs_lift k (r + 1) (by omega))
  have OK := Lib.hid (ok_digs (r + 1))
  obtain ⟨b2, off2, hA2, hb2, _⟩ := D2.out.2.2 hd0
  have D2' := D2.out
  subst hA2
  generalize digs (r + 1) = T at *
  have D3 := Lib.hid D2'
  clear D2 D2'
  have HO := Lib.hid (own_row (base := w2.heap.size) (Row.made w2 k) (Nat.le_refl _) (by rw [List.length_replicate]; unfold maxLen; omega))
  rw [List.length_replicate] at HO
  go_wp2_with (at_builtin; refine wpList_append_own _ rfl _ _ 22 rfl w2.heap.size 67 i0 (.int .u32 0) 1 4 Tryd.underlying22 hi hz0 hz1 hz2 rfl (by decide) _ _ _ rfl HO.out ⟨b2, off2, none⟩ T.length c2 (cells T) rfl ?qc1 ?qc2 ?qc3 ?qc4 ?qc5 ?qc6 ?_)
  case qc1 => simp [cells]
  case qc2 =>
    intro j u hj
    rw [← dg_cell D3.out hj]
    exact World.cell?_alloc_lt w2 _ _ (by rw [Addr.add_lit]; exact hb2)
  case qc3 => intro u hu; unfold cells at hu; obtain ⟨x, _, rfl⟩ := List.mem_map.1 hu; rfl
  case qc4 => unfold maxLen; omega
  case qc5 => omega
  case qc6 => simp
  intro v' w3 hown hgrow hnil
  have e1 : cells (List.replicate k 0) ++ cells T = cells (List.replicate k 0 ++ T) := by simp [cells]
  rw [e1] at hown
  obtain ⟨A', c', hv, hd⟩ := dg_of_own hown (by
    intro x hx
    rcases List.mem_append.1 hx with hx | hx
    · exact ok_zeros k x hx
    · exact OK.out x hx)
  have HV := Lib.hid hv
  have HDD := Lib.hid hd
  have HGR := Lib.hid (((Below.refl _ w2).alloc (Nat.le_refl _) _).grown hgrow (by simp) (by intro k hk; simp [Value.ownBlock] at hk; omega))
  clear hv hown hd hgrow hnil e1
  go_wp2
  go_ret
  refine ⟨A', c', 4294967296 ^ k * (r + 1), by rw [HD.out, ← HV.out]; rfl, by rw [HD.out]; exact HDD.out, B2.out.trans (HGR.out.mono B2.out.size), sq_up hx.out, Nat.mul_pos (Nat.pow_pos (by omega)) (by omega), by rw [HD.out, List.length_append, List.length_replicate]; omega⟩
end Go.Proofs.YtnfafgpnnpapdaaDoor
end

section
/-
  quo.root at every length; quo.Sqrt.
-/
namespace Go.Proofs.YtnfafgpnnpapdaaDoor
open Go.RowKit
theorem Dg.drop_ {w : World} {b off c : Nat} {xs : List Nat} (h : Dg w (some ⟨b, off, none⟩) c xs) (j : Nat) : Dg w (some ⟨b, off + j, none⟩) (c - j) (xs.drop j) := by
  refine ⟨by rw [List.length_drop]; have := h.1; omega, fun x hx => h.2.1 x (List.mem_of_mem_drop hx), fun h0 => ?_⟩
  rw [List.length_drop] at h0
  obtain ⟨b', off', e, hb, hc⟩ := h.2.2 (by omega)
  injection e with e
  injection e with e1 e2 _
  subst e1 e2
  refine ⟨b, off + j, rfl, hb, fun i hi => ?_⟩
  rw [List.length_drop] at hi
  rw [Nat.add_assoc, hc _ (by omega), List.getElem?_drop]
theorem rt_self (n : Nat) : rt n ≤ n := by
  rcases Nat.eq_zero_or_pos (rt n) with h | h
  · omega
  · exact Nat.le_trans (Nat.le_mul_of_pos_right _ h) (rt_spec n).1
theorem trimmed_drop {xs : List Nat} (hk : ok32 xs) (ex : digs (val xs) = xs) (j : Nat) : digs (val (xs.drop j)) = xs.drop j := by
  refine digs_val (fun x hx => hk x (List.mem_of_mem_drop hx)) fun x hx => ?_
  rw [List.getLast?_drop] at hx
  split at hx
  · cases hx
  · exact last_digs (n := val xs) (by rw [ex]; exact hx)
theorem above_le {xs : List Nat} (hk : ok32 xs) {k : Nat} (h : 2 * k ≤ xs.length) : val xs < 4294967296 ^ k * (rt (val (xs.drop (2 * k))) + 1) * (4294967296 ^ k * (rt (val (xs.drop (2 * k))) + 1)) := by
  have h1 := val_split xs h
  have h2 := val_take_lt hk (2 * k) h
  have h3 := (rt_spec (val (xs.drop (2 * k)))).2
  rw [Nat.mul_mul_mul_comm, ← Nat.pow_add, show k + k = 2 * k by omega]
  have h4 := Nat.mul_le_mul_left (4294967296 ^ (2 * k)) h3
  rw [Nat.mul_succ] at h4
  omega
theorem root_all : ∀ (N : Nat) (A : Option Addr) (c : Nat) (xs : List Nat) (w : World), xs.length ≤ N → Dg w A c xs → xs.length ≤ 500000 → digs (val xs) = xs →
    Calls Tryd.prog 129 #[.slice A xs.length c] w fun e w' => ∃ A' c', e = .returned (.slice A' (digs (rt (val xs))).length c') ∧ Dg w' A' c' (digs (rt (val xs))) ∧ Below w.heap.size w w' := by
  intro N
  induction N using Nat.strongRecOn with
  | ind N IH =>
    intro A c xs w hN h hl ex
    refine root_of A c xs w h hl ex fun h0 => ?_
    rcases Nat.lt_or_ge xs.length 4 with h4 | h4
    · exact above_small A c xs w h h4
    · obtain ⟨b, off, rfl, _, _⟩ := h.2.2 h0
      have hj : (xs.drop (2 * (xs.length / 4))).length = xs.length - 2 * (xs.length / 4) := List.length_drop
      have HR := IH (xs.length - 2 * (xs.length / 4)) (by omega) (some ⟨b, off + 2 * (xs.length / 4), none⟩) (c - 2 * (xs.length / 4)) (xs.drop (2 * (xs.length / 4))) w (by omega) (h.drop_ _) (by omega) (trimmed_drop h.2.1 ex _)
      rw [hj] at HR
      have hr : (digs (rt (val (xs.drop (2 * (xs.length / 4)))))).length ≤ 500000 - xs.length / 4 := by
        have h1 := digs_len_mono _ _ (rt_self (val (xs.drop (2 * (xs.length / 4)))))
        rw [trimmed_drop h.2.1 ex] at h1
        omega
      exact above_big b off c (xs.length / 4) (2 * (xs.length / 4)) _ xs w hl rfl (by omega) rfl h.1 HR hr (above_le h.2.1 (by omega))
set_option maxHeartbeats 2000000 in
set_option maxRecDepth 100000 in
theorem sqrt_any (A : Option Addr) (c : Nat) (xs : List Nat) (w : World) (h : Dg w A c xs) (hl : xs.length ≤ 500000) :
    Calls Tryd.prog 91 #[.slice A xs.length c] w fun e w' => ∃ A' c' B' d', e = .returned (.tuple #[.slice A' (digs (rt (val xs))).length c', .slice B' (digs (val xs - rt (val xs) * rt (val xs))).length d']) ∧ Dg w' A' c' (digs (rt (val xs))) ∧ Dg w' B' d' (digs (val xs - rt (val xs) * rt (val xs))) ∧ Below w.heap.size w w' := by
  have L0 := Lib.hid ((live_start w).add h)
  have l1 := digs_len_le h.2.1
  have l2 := digs_len_mono _ _ (rt_self (val xs))
  have l3 := digs_mul_len (rt (val xs)) (rt (val xs))
  have HS := Lib.hid (rt_spec (val xs)).1
  clear h
  go_enter Tryd.func91, Tryd.ntmps91
  go_wp2_with fail
  refine Calls.mono (trim_l (xs := xs) (x := val xs) L0.out (by simp) rfl rfl (by omega)) ?_
  rintro e w1 ⟨A1, c1, rfl, h1⟩
  have L1 := Lib.hid h1
  clear h1
  have HR := root_all (digs (val xs)).length A1 c1 (digs (val xs)) w1 (Nat.le_refl _) (L1.out.get (by simp)) (by omega) (by rw [val_digs])
  rw [val_digs] at HR
  have HRR := Lib.hid HR
  clear HR
  go_wp2_with fail
  refine HRR.out.mono ?_
  rintro e w2 ⟨A2, c2, rfl, g1, g2⟩
  have L2 := Lib.hid ((L1.out.step g2).add g1)
  clear g1 g2
  go_wp2_with fail
  refine Calls.mono (mul_l (xs := digs (rt (val xs))) (ys := digs (rt (val xs))) (x := rt (val xs)) (y := rt (val xs)) L2.out (by simp) (by simp) rfl rfl (val_digs _) (val_digs _) (by omega) (by omega)) ?_
  rintro e w3 ⟨A3, c3, rfl, h1⟩
  have L3 := Lib.hid h1
  clear h1
  go_wp2_with fail
  refine Calls.mono (sub_l (xs := xs) (ys := digs (rt (val xs) * rt (val xs))) (x := val xs) (y := rt (val xs) * rt (val xs)) L3.out (by simp) (by simp) rfl rfl rfl (val_digs _) (by omega) (by omega) HS.out) ?_
  rintro e w4 ⟨A4, c4, rfl, h1⟩
  have L4 := Lib.hid h1
  clear h1
  go_wp2
  go_ret2
  exact ⟨A2, c2, A4, c4, rfl, L4.out.get (by simp), L4.out.get (by simp), L4.out.1⟩
section
variable {w0 w w' : World} {L : List (Option Addr × Nat × List Nat)} {A : Option Addr} {c n : Nat} {xs : List Nat} {x : Nat}
theorem sqrt_l (hL : Live w0 w L) (h1 : (A, c, xs) ∈ L) (hn : n = xs.length) (hx : val xs = x) (b1 : xs.length ≤ 500000) :
    Calls Tryd.prog 91 #[.slice A n c] w fun e w' => ∃ A' c' B' d', e = .returned (.tuple #[.slice A' (digs (rt x)).length c', .slice B' (digs (x - rt x * rt x)).length d']) ∧ Live w0 w' ((B', d', digs (x - rt x * rt x)) :: (A', c', digs (rt x)) :: L) := by
  subst hn hx
  exact (sqrt_any A c xs w (hL.get h1) b1).mono fun e w' ⟨A', c', B', d', he, hd, hd', hb⟩ => ⟨A', c', B', d', he, ((hL.step hb).add hd).add hd'⟩
end
end Go.Proofs.YtnfafgpnnpapdaaDoor
end

section
/-
  dyad.Sqrt.
-/
namespace Go.Proofs.YtnfafgpnnpapdaaDoor
open Go.RowKit
set_option linter.unusedSimpArgs false
set_option linter.unusedVariables false
theorem and_i64_1 (v : Int) (h0 : -4611686018427387904 ≤ v) (h1 : v ≤ 4611686018427387904) : bits BinOp.and IntKind.i64 v 1 = v % 2 := by
  show IntKind.i64.wrap ((BitVec.ofInt 64 v &&& BitVec.ofInt 64 1).toNat : Int) = _
  have e1 : (BitVec.ofInt 64 1).toNat = 1 := by decide
  have e2 : (BitVec.ofInt 64 v).toNat = (v % 18446744073709551616).toNat := by rw [BitVec.toNat_ofInt]; rfl
  rw [BitVec.toNat_and, e1, e2, Nat.and_one_is_mod, IntWalk.i64_in _ ⟨by omega, by omega⟩]
  omega
theorem sqrt_kept {m x h : Int} {k p : Nat} {up more : Bool} (m0 : 0 < m) (p1 : 1 ≤ p) (hk : 2 * p ≤ blen m.natAbs + k) (hh : x - k = 2 * h) (hm : more = decide (m.natAbs * 2 ^ k - rt (m.natAbs * 2 ^ k) * rt (m.natAbs * 2 ^ k) ≠ 0)) :
    p ≤ blen (rt (m.natAbs * 2 ^ k)) ∧ RsOf (dv m x) p up (nm (kept (rt (m.natAbs * 2 ^ k)) p more up : Nat)) (nx (kept (rt (m.natAbs * 2 ^ k)) p more up : Nat) (h + (blen (rt (m.natAbs * 2 ^ k)) - p : Nat))) := by
  have ⟨a, b⟩ := rt_spec (m.natAbs * 2 ^ k)
  have hN : 2 ^ (2 * (p - 1)) ≤ m.natAbs * 2 ^ k := by
    have ⟨a, _, c⟩ := blen_bd m.natAbs (by omega)
    refine Nat.le_trans (Nat.pow_le_pow_right (by omega) (show 2 * (p - 1) ≤ blen m.natAbs - 1 + k by omega)) ?_
    rw [Nat.pow_add]; exact Nat.mul_le_mul_right _ a
  have hv : dv m x = dv ((m.natAbs * 2 ^ k : Nat) : Int) (h + h) := by
    have := dv_pow (m.natAbs : Int) k (h + h)
    rw [show h + h + (k : Int) = x by omega] at this
    rw [show ((m.natAbs : Nat) : Int) = m by omega] at this
    rw [← this]; congr 1
    push_cast
    rw [show ((m.natAbs : Nat) : Int) = m by omega]
  generalize m.natAbs * 2 ^ k = N at *
  generalize rt N = R at *
  have hR : 2 ^ (p - 1) ≤ R := by
    rcases Nat.lt_or_ge R (2 ^ (p - 1)) with h | h
    · exfalso
      have h1 : (R + 1) * (R + 1) ≤ 2 ^ (p - 1) * 2 ^ (p - 1) := Nat.mul_le_mul h h
      rw [← Nat.pow_add, show p - 1 + (p - 1) = 2 * (p - 1) by omega] at h1
      omega
    · exact h
  have hpb : p ≤ blen R := by
    have h1 := blen_uniq (n := 2 ^ (p - 1)) (k := p - 1) (Nat.le_refl _) (Nat.pow_lt_pow_right (by omega) (by omega))
    have := blen_mono hR
    omega
  refine ⟨hpb, ?_⟩
  have e1 : dv (R : Int) h * dv (R : Int) h = dv ((R * R : Nat) : Int) (h + h) := by rw [dv_mul]; congr 1
  have e2 : dv (R + 1 : Int) h * dv (R + 1 : Int) h = dv (((R + 1) * (R + 1) : Nat) : Int) (h + h) := by rw [dv_mul]; congr 1
  refine kept_rs (more := more) (up := up) (e := h) hpb p1 ?_ ?_ ?_ (nf_n _ _) (dv_n _ _)
  · rw [e1, hv, dv_le]; exact_mod_cast a
  · rw [e2, hv, dv_lt]; exact_mod_cast b
  · rw [hm, decide_eq_decide, e1, hv]
    constructor
    · intro h1 h2
      have h3 := dv_inj h2
      have : N = R * R := by exact_mod_cast h3
      omega
    · intro h1 h2
      apply h1
      have : N = R * R := by omega
      rw [this]
theorem sqrt_d {A : Option Addr} {c N : Nat} {w : World} (h : Dg w A c (digs N)) (hl : (digs N).length ≤ 500000) :
    Calls Tryd.prog 91 #[.slice A (digs N).length c] w fun e w' => ∃ A' c' B' d', e = .returned (.tuple #[.slice A' (digs (rt N)).length c', .slice B' (digs (N - rt N * rt N)).length d']) ∧ Dg w' A' c' (digs (rt N)) ∧ Dg w' B' d' (digs (N - rt N * rt N)) ∧ Below w.heap.size w w' := by
  have := sqrt_any A c (digs N) w h hl
  rw [val_digs] at this; exact this

set_option maxHeartbeats 4000000 in
set_option maxRecDepth 100000 in
theorem sqrt_z_ (A : Option Addr) (c : Nat) (m x P M E : Int) (up : Bool) (w : World) (h : Dg w A c (digs m.natAbs)) (hl : (digs m.natAbs).length ≤ 10000) (r1 : Rt m x) (hT : T32 w) {p : Nat} (hP : (p : Int) = P) (p2 : 2 ≤ p) (p4 : p ≤ 400) (hs : RsOf (dv m x) p up M E) (hq : inR M E = true) (m0 : m = 0):
    Calls Tryd.prog 44 #[.agg #[.bool (decide (m < 0)), .slice A (digs m.natAbs).length c, .int .i64 x], .int .i64 P, .bool up] w fun e w' => Ye M E 0 w e w' := by
  have HR1 := Lib.hid r1
  have lx := Lib.hid hl
  have HQ := Lib.hid hq
  have x0 := r1.2.1
  have x1 := r1.2.2
  have LM := Lib.hid (inr_len hq)
  have HPR := Lib.hid (precB_in (P := P) (by omega) (by omega))
  have D1 := Lib.hid (show decide (m = 0) = true by simp; omega)
  have dneg : decide (m < 0) = false := by simp; omega
  have HNEG := Lib.hid dneg
  obtain ⟨rfl, rfl⟩ := RsOf.uniq (by omega) (M := m) (E := x) ⟨r1.1, .inl ⟨by rw [m0, dv_zero], m0⟩⟩ hs
  have HT := Lib.hid hT
  clear hT
  have L0 := Lib.hid ((live_start w).add h)
  clear h hl r1 hs hq hP m0 dneg
  go_enter Tryd.func44, Tryd.ntmps44
  go_wp2_with fail
  obtain ⟨v1, hW⟩ : ∃ W : World, W = (((w.alloc (.cells #[.bool (decide (m < 0)), .slice A (digs m.natAbs).length c, .int .i64 x] 26)).alloc (.cells #[.bool false, .slice none 0 0, .int .i64 0] 26)).alloc (.cells #[.bool (decide (m < 0)), .slice A (digs m.natAbs).length c, .int .i64 x] 26)) := ⟨_, rfl⟩
  rw [← hW]
  have hb : Below w.heap.size w v1 := by rw [hW]; exact ((((Below.refl _ _).alloc (by simp <;> omega) _).alloc (by simp <;> omega) _).alloc (by simp <;> omega) _)
  have L1 := Lib.hid (L0.out.step hb)
  have Rx_1 := Lib.hid (show v1.heap[w.heap.size]? = some (.cells #[.bool (decide (m < 0)), .slice A (digs m.natAbs).length c, .int .i64 x] 26 (0, 0)) by rw [hW]; have := heap_alloc_new w (.cells #[.bool (decide (m < 0)), .slice A (digs m.natAbs).length c, .int .i64 x] 26); rw [heap_alloc_old _ _ (by simp <;> omega)]; rw [heap_alloc_old _ _ (by simp <;> omega)]; simpa using this)
  have Gx : w.heap.size ≤ w.heap.size := by have := L0.out.1.size; omega
  have Rr_1 := Lib.hid (show v1.heap[w.heap.size + 1]? = some (.cells #[.bool false, .slice none 0 0, .int .i64 0] 26 (0, 0)) by rw [hW]; have := heap_alloc_new (w.alloc (.cells #[.bool (decide (m < 0)), .slice A (digs m.natAbs).length c, .int .i64 x] 26)) (.cells #[.bool false, .slice none 0 0, .int .i64 0] 26); rw [heap_alloc_old _ _ (by simp <;> omega)]; simpa using this)
  have Gr : w.heap.size ≤ w.heap.size + 1 := by have := L0.out.1.size; omega
  have Nxr : w.heap.size < w.heap.size + 1 := by omega
  have Rsl_1 := Lib.hid (show v1.heap[w.heap.size + 1 + 1]? = some (.cells #[.bool (decide (m < 0)), .slice A (digs m.natAbs).length c, .int .i64 x] 26 (0, 0)) by rw [hW]; have := heap_alloc_new ((w.alloc (.cells #[.bool (decide (m < 0)), .slice A (digs m.natAbs).length c, .int .i64 x] 26)).alloc (.cells #[.bool false, .slice none 0 0, .int .i64 0] 26)) (.cells #[.bool (decide (m < 0)), .slice A (digs m.natAbs).length c, .int .i64 x] 26); simpa using this)
  have Gsl : w.heap.size ≤ w.heap.size + 1 + 1 := by have := L0.out.1.size; omega
  have Nxsl : w.heap.size < w.heap.size + 1 + 1 := by omega
  have Nrsl : w.heap.size + 1 < w.heap.size + 1 + 1 := by omega
  clear hW hb
  refine (begin_1 Rsl_1.out (L1.out.get (A := A) (c := c) (xs := digs m.natAbs) (by simp)) (dyR_num HR1.out) (Nat.le_trans lx.out (by omega)) (k := 0) rfl).mono ?_
  rintro e w2 ⟨rfl, hb⟩
  have L2 := Lib.hid (L1.out.step hb)
  have Rx_2 := Lib.hid (cells_of Rx_1.out hb)
  have Rr_2 := Lib.hid (cells_of Rr_1.out hb)
  have Rsl_2 := Lib.hid (cells_of Rsl_1.out hb)
  clear hb 
  go_wp2_with fail
  obtain ⟨w3, hW⟩ : ∃ W : World, W = (w2.alloc (.cells #[.int .i64 0] 79)) := ⟨_, rfl⟩
  rw [← hW]
  have hb : Below w2.heap.size w2 w3 := by rw [hW]; exact ((Below.refl _ _).alloc (by simp <;> omega) _)
  have L3 := Lib.hid (L2.out.step hb)
  have Rx_3 := Lib.hid (cells_of Rx_2.out hb)
  have Rr_3 := Lib.hid (cells_of Rr_2.out hb)
  have Rsl_3 := Lib.hid (cells_of Rsl_2.out hb)
  have Rk_3 := Lib.hid (show w3.heap[w2.heap.size]? = some (.cells #[.int .i64 0] 79 (0, 0)) by rw [hW]; have := heap_alloc_new w2 (.cells #[.int .i64 0] 79); simpa using this)
  have Gk : w.heap.size ≤ w2.heap.size := by have := L2.out.1.size; omega
  have Nxk : w.heap.size < w2.heap.size := by have := heap_lt Rx_2.out; omega
  have Nrk : w.heap.size + 1 < w2.heap.size := by have := heap_lt Rr_2.out; omega
  have Nslk : w.heap.size + 1 + 1 < w2.heap.size := by have := heap_lt Rsl_2.out; omega
  clear hW hb
  refine (precision_no _ 0 P _ (row_c Rk_3.out (i := 0) rfl) (.inl HPR.out)).mono ?_
  rintro e w4 ⟨rfl, rfl⟩
  have dneg := HNEG.out
  have fx0 := row_c (i := 0) Rx_3.out rfl
  have zx0 := frozen_of_row _ _ 0 _ _ Rx_3.out
  have fx1 := row_c (i := 1) Rx_3.out rfl
  have zx1 := frozen_of_row _ _ 1 _ _ Rx_3.out
  have fx2 := row_c (i := 2) Rx_3.out rfl
  have zx2 := frozen_of_row _ _ 2 _ _ Rx_3.out
  have xx := heap_lt Rx_3.out
  go_wp2_with fail
  refine (tell_no _ 0 3 false _ (row_c Rk_3.out (i := 0) rfl) (.inl rfl)).mono ?_
  rintro e w5 ⟨rfl, rfl⟩
  clear dneg
  clear fx0 zx0 fx1 zx1 fx2 zx2 xx
  go_wp2_with fail
  refine (fails_any _ 0 false _ (row_c Rk_3.out (i := 0) rfl) rfl).mono ?_
  rintro e w6 ⟨rfl, rfl⟩
  have fx0 := row_c (i := 0) Rx_3.out rfl
  have zx0 := frozen_of_row _ _ 0 _ _ Rx_3.out
  have fx1 := row_c (i := 1) Rx_3.out rfl
  have zx1 := frozen_of_row _ _ 1 _ _ Rx_3.out
  have fx2 := row_c (i := 2) Rx_3.out rfl
  have zx2 := frozen_of_row _ _ 2 _ _ Rx_3.out
  have xx := heap_lt Rx_3.out
  go_wp2_with fail
  refine (isz_d (x := x) D1.out).mono ?_
  rintro e w7 ⟨rfl, hb⟩
  have L7 := Lib.hid (L3.out.step hb)
  clear fx0 zx0 fx1 zx1 fx2 zx2 xx
  have Rx_7 := Lib.hid (cells_of Rx_3.out hb)
  have Rr_7 := Lib.hid (cells_of Rr_3.out hb)
  have Rsl_7 := Lib.hid (cells_of Rsl_3.out hb)
  have Rk_7 := Lib.hid (cells_of Rk_3.out hb)
  clear hb 
  have fx0 := row_c (i := 0) Rx_7.out rfl
  have zx0 := frozen_of_row _ _ 0 _ _ Rx_7.out
  have fx1 := row_c (i := 1) Rx_7.out rfl
  have zx1 := frozen_of_row _ _ 1 _ _ Rx_7.out
  have fx2 := row_c (i := 2) Rx_7.out rfl
  have zx2 := frozen_of_row _ _ 2 _ _ Rx_7.out
  have xx := heap_lt Rx_7.out
  go_wp2_with fail
  refine (answer_d (row_c Rk_7.out (i := 0) rfl) (heap_lt Rk_7.out) (L7.out.get (A := A) (c := c) (xs := digs m.natAbs) (by simp)) (Nat.le_trans LM.out (by omega)) HQ.out).mono ?_
  rintro e w8 ⟨A8, c8, rfl, hd, hb⟩
  have L8 := Lib.hid ((L7.out.step hb).add hd)
  clear fx0 zx0 fx1 zx1 fx2 zx2 xx
  have Rx_8 := Lib.hid (cells_of Rx_7.out hb)
  have Rr_8 := Lib.hid (cells_of Rr_7.out hb)
  have Rsl_8 := Lib.hid (cells_of Rsl_7.out hb)
  have Rk_8 := Lib.hid (cells_of Rk_7.out hb)
  clear hb hd
  have fr0 := row_c (i := 0) Rr_8.out rfl
  have zr0 := frozen_of_row _ _ 0 _ _ Rr_8.out
  have fr1 := row_c (i := 1) Rr_8.out rfl
  have zr1 := frozen_of_row _ _ 1 _ _ Rr_8.out
  have fr2 := row_c (i := 2) Rr_8.out rfl
  have zr2 := frozen_of_row _ _ 2 _ _ Rr_8.out
  have xr := heap_lt Rr_8.out
  go_wp2
  refine bodyPost_ret (v := .tuple #[.agg #[.bool (decide (m < 0)), .slice A8 (digs m.natAbs).length c8, .int .i64 x], .int .i64 0]) (by simp [results, Tryd.results44, go_sem, fr0, fr1, fr2]) rfl ?_
  
  refine ⟨A8, c8, rfl, ?_, ?_⟩
  · exact (fin3 L8.out Rr_8.out noint3 Gr).get (A := A8) (c := c8) (xs := digs m.natAbs) (by simp)
  · exact (fin3 L8.out Rr_8.out noint3 Gr).1

set_option maxHeartbeats 4000000 in
set_option maxRecDepth 100000 in
theorem sqrt_b_ (A : Option Addr) (c : Nat) (m x P M E : Int) (up : Bool) (w : World) (h : Dg w A c (digs m.natAbs)) (hl : (digs m.natAbs).length ≤ 10000) (r1 : Rt m x) (hT : T32 w) {p : Nat} (hP : (p : Int) = P) (p2 : 2 ≤ p) (p4 : p ≤ 400) (hs : RsOf (dv m x) p up M E) (hq : inR M E = true) (m0 : 0 < m):
    Calls Tryd.prog 44 #[.agg #[.bool (decide (m < 0)), .slice A (digs m.natAbs).length c, .int .i64 x], .int .i64 P, .bool up] w fun e w' => Ye M E 0 w e w' := by
  have HR1 := Lib.hid r1
  have lx := Lib.hid hl
  have HQ := Lib.hid hq
  have x0 := r1.2.1
  have x1 := r1.2.2
  have LM := Lib.hid (inr_len hq)
  have HPR := Lib.hid (precB_in (P := P) (by omega) (by omega))
  have D1 := Lib.hid (show decide (m = 0) = false by simp; omega)
  have dneg : decide (m < 0) = false := by simp; omega
  have HNEG := Lib.hid dneg
  have b1 := bl_bd hl
  obtain ⟨z1, hz1⟩ : ∃ z : Int, (blen m.natAbs : Int) = z := ⟨_, rfl⟩
  obtain ⟨k1, hk1⟩ : ∃ k : Int, max 0 (2 * P - z1) = k := ⟨_, rfl⟩
  obtain ⟨o, ho⟩ : ∃ o : Int, (x - k1) % 2 = o := ⟨_, rfl⟩
  obtain ⟨k, hk⟩ : ∃ k : Int, k1 + o = k := ⟨_, rfl⟩
  obtain ⟨kn, hkn⟩ : ∃ kn : Nat, kn = k.toNat := ⟨_, rfl⟩
  have hkk : k = (kn : Int) := by omega
  have hkb : kn ≤ 330000 := by omega
  have hkp : 2 * p ≤ blen m.natAbs + kn := by omega
  obtain ⟨hf, hhf⟩ : ∃ h : Int, x - k = 2 * h := ⟨(x - k) / 2, by omega⟩
  have hlN := up_len (q := m.natAbs) hl hkb
  obtain ⟨mo, hmo⟩ : ∃ t, decide (m.natAbs * 2 ^ kn - rt (m.natAbs * 2 ^ kn) * rt (m.natAbs * 2 ^ kn) ≠ 0) = t := ⟨_, rfl⟩
  have hkept := sqrt_kept (m := m) (x := x) (h := hf) (k := kn) (p := p) (up := up) (more := mo) m0 (by omega) hkp (by omega) hmo.symm
  have hu := RsOf.uniq (by omega) hkept.2 hs
  have HB := Lib.hid hkept.1
  obtain ⟨N, hN⟩ : ∃ N, m.natAbs * 2 ^ kn = N := ⟨_, rfl⟩
  rw [hN] at hlN hu HB hmo
  have hrl : rt N ≤ N := by
    have := (rt_spec N).1
    rcases Nat.eq_zero_or_pos (rt N) with h0 | h0
    · omega
    · exact Nat.le_trans (Nat.le_mul_of_pos_left _ h0) this
  have hlQ := digs_len_mono _ _ hrl
  have HMO := Lib.hid (show decide (0 < (digs (N - rt N * rt N)).length) = mo by rw [← hmo, decide_eq_decide]; have := @digs_nil (N - rt N * rt N); omega)
  obtain ⟨Q, hQ⟩ : ∃ Q, rt N = Q := ⟨_, rfl⟩
  rw [hQ] at hu HB hlQ HMO
  obtain ⟨R, hR⟩ : ∃ R, N - Q * Q = R := ⟨_, rfl⟩
  rw [hR] at HMO
  have DM := Lib.hid (fun (A : Option Addr) (c : Nat) W (h : Dg W A c (digs N)) => sqrt_d h (by omega))
  rw [hQ, hR] at DM
  have hu1 := hu.1
  have hu2 := hu.2
  have HM := Lib.hid (show nm (sg false (kept Q p mo (up != false))) = M by rw [← hu1]; cases up <;> rfl)
  have HE := Lib.hid (show nx (sg false (kept Q p mo (up != false))) (hf + (blen Q - p : Nat)) = E by rw [← hu2]; cases up <;> rfl)
  have HN := Lib.hid hN
  have HKK := Lib.hid hkk
  have HKB := Lib.hid (show kn ≤ 1000000 by omega)
  have HP2 := Lib.hid hP
  have HZ1 := Lib.hid hz1
  have LQ := Lib.hid (show (digs Q).length ≤ 30000 by omega)
  have LN := Lib.hid hlN
  obtain ⟨s0, hs0⟩ : ∃ s, 2 * P = s := ⟨_, rfl⟩
  obtain ⟨s1, hs1⟩ : ∃ s, s0 - z1 = s := ⟨_, rfl⟩
  have S0 := Lib.hid (show wrap64 (2 * P) = s0 by rw [IntWalk.wrap64_in _ ⟨by omega, by omega⟩]; exact hs0)
  have S1 := Lib.hid (show wrap64 (s0 - z1) = s1 by rw [IntWalk.wrap64_in _ ⟨by omega, by omega⟩]; exact hs1)
  have hmax : max 0 (2 * P - z1) = k1 := hk1
  have p0 : 2 ≤ P := by omega
  have p9 : P ≤ 400 := by omega
  have zz0 : 0 ≤ z1 := by omega
  have zz1 : z1 ≤ 320000 := by omega
  have k10 : 0 ≤ k1 := by omega
  have k19 : k1 ≤ 800 := by omega
  have o0 : 0 ≤ o := by omega
  have o1 : o ≤ 1 := by omega
  have hand : bits BinOp.and IntKind.i64 (x - k1) 1 = o := by rw [and_i64_1 _ (by omega) (by omega)]; exact ho
  have HAND := Lib.hid hand
  have HKO := Lib.hid (show wrap64 (k1 + bits BinOp.and IntKind.i64 (x - k1) 1) = k by rw [hand, IntWalk.wrap64_in _ ⟨by omega, by omega⟩]; exact hk)
  have HMAX := Lib.hid hmax
  have k0 : 0 ≤ k := by omega
  have k9 : k ≤ 1000 := by omega
  have HHF := Lib.hid hhf
  have hq2 : Int.tdiv (x - k) 2 = hf := by rw [hhf, Int.mul_comm]; exact Int.mul_tdiv_cancel _ (by omega)
  have HQ2 := Lib.hid hq2
  have hf0 : -70000 ≤ hf := by omega
  have hf9 : hf ≤ 70000 := by omega
  have HT := Lib.hid hT
  clear hT
  have L0 := Lib.hid ((live_start w).add h)
  clear h hl r1 hs hq hP m0 dneg hz1 hk1 ho hk hkn hkk hkb hkp hhf hlN hmo hkept hu hN hrl hlQ hQ hR hu1 hu2 hs0 hs1 hand hq2 b1 hmax
  go_enter Tryd.func44, Tryd.ntmps44
  go_wp2_with fail
  obtain ⟨v1, hW⟩ : ∃ W : World, W = (((w.alloc (.cells #[.bool (decide (m < 0)), .slice A (digs m.natAbs).length c, .int .i64 x] 26)).alloc (.cells #[.bool false, .slice none 0 0, .int .i64 0] 26)).alloc (.cells #[.bool (decide (m < 0)), .slice A (digs m.natAbs).length c, .int .i64 x] 26)) := ⟨_, rfl⟩
  rw [← hW]
  have hb : Below w.heap.size w v1 := by rw [hW]; exact ((((Below.refl _ _).alloc (by simp <;> omega) _).alloc (by simp <;> omega) _).alloc (by simp <;> omega) _)
  have L1 := Lib.hid (L0.out.step hb)
  have Rx_1 := Lib.hid (show v1.heap[w.heap.size]? = some (.cells #[.bool (decide (m < 0)), .slice A (digs m.natAbs).length c, .int .i64 x] 26 (0, 0)) by rw [hW]; have := heap_alloc_new w (.cells #[.bool (decide (m < 0)), .slice A (digs m.natAbs).length c, .int .i64 x] 26); rw [heap_alloc_old _ _ (by simp <;> omega)]; rw [heap_alloc_old _ _ (by simp <;> omega)]; simpa using this)
  have Gx : w.heap.size ≤ w.heap.size := by have := L0.out.1.size; omega
  have Rr_1 := Lib.hid (show v1.heap[w.heap.size + 1]? = some (.cells #[.bool false, .slice none 0 0, .int .i64 0] 26 (0, 0)) by rw [hW]; have := heap_alloc_new (w.alloc (.cells #[.bool (decide (m < 0)), .slice A (digs m.natAbs).length c, .int .i64 x] 26)) (.cells #[.bool false, .slice none 0 0, .int .i64 0] 26); rw [heap_alloc_old _ _ (by simp <;> omega)]; simpa using this)
  have Gr : w.heap.size ≤ w.heap.size + 1 := by have := L0.out.1.size; omega
  have Nxr : w.heap.size < w.heap.size + 1 := by omega
  have Rsl_1 := Lib.hid (show v1.heap[w.heap.size + 1 + 1]? = some (.cells #[.bool (decide (m < 0)), .slice A (digs m.natAbs).length c, .int .i64 x] 26 (0, 0)) by rw [hW]; have := heap_alloc_new ((w.alloc (.cells #[.bool (decide (m < 0)), .slice A (digs m.natAbs).length c, .int .i64 x] 26)).alloc (.cells #[.bool false, .slice none 0 0, .int .i64 0] 26)) (.cells #[.bool (decide (m < 0)), .slice A (digs m.natAbs).length c, .int .i64 x] 26); simpa using this)
  have Gsl : w.heap.size ≤ w.heap.size + 1 + 1 := by have := L0.out.1.size; omega
  have Nxsl : w.heap.size < w.heap.size + 1 + 1 := by omega
  have Nrsl : w.heap.size + 1 < w.heap.size + 1 + 1 := by omega
  clear hW hb
  refine (begin_1 Rsl_1.out (L1.out.get (A := A) (c := c) (xs := digs m.natAbs) (by simp)) (dyR_num HR1.out) (Nat.le_trans lx.out (by omega)) (k := 0) rfl).mono ?_
  rintro e w2 ⟨rfl, hb⟩
  have L2 := Lib.hid (L1.out.step hb)
  have Rx_2 := Lib.hid (cells_of Rx_1.out hb)
  have Rr_2 := Lib.hid (cells_of Rr_1.out hb)
  have Rsl_2 := Lib.hid (cells_of Rsl_1.out hb)
  clear hb 
  go_wp2_with fail
  obtain ⟨w3, hW⟩ : ∃ W : World, W = (w2.alloc (.cells #[.int .i64 0] 79)) := ⟨_, rfl⟩
  rw [← hW]
  have hb : Below w2.heap.size w2 w3 := by rw [hW]; exact ((Below.refl _ _).alloc (by simp <;> omega) _)
  have L3 := Lib.hid (L2.out.step hb)
  have Rx_3 := Lib.hid (cells_of Rx_2.out hb)
  have Rr_3 := Lib.hid (cells_of Rr_2.out hb)
  have Rsl_3 := Lib.hid (cells_of Rsl_2.out hb)
  have Rk_3 := Lib.hid (show w3.heap[w2.heap.size]? = some (.cells #[.int .i64 0] 79 (0, 0)) by rw [hW]; have := heap_alloc_new w2 (.cells #[.int .i64 0] 79); simpa using this)
  have Gk : w.heap.size ≤ w2.heap.size := by have := L2.out.1.size; omega
  have Nxk : w.heap.size < w2.heap.size := by have := heap_lt Rx_2.out; omega
  have Nrk : w.heap.size + 1 < w2.heap.size := by have := heap_lt Rr_2.out; omega
  have Nslk : w.heap.size + 1 + 1 < w2.heap.size := by have := heap_lt Rsl_2.out; omega
  clear hW hb
  refine (precision_no _ 0 P _ (row_c Rk_3.out (i := 0) rfl) (.inl HPR.out)).mono ?_
  rintro e w4 ⟨rfl, rfl⟩
  have dneg := HNEG.out
  have fx0 := row_c (i := 0) Rx_3.out rfl
  have zx0 := frozen_of_row _ _ 0 _ _ Rx_3.out
  have fx1 := row_c (i := 1) Rx_3.out rfl
  have zx1 := frozen_of_row _ _ 1 _ _ Rx_3.out
  have fx2 := row_c (i := 2) Rx_3.out rfl
  have zx2 := frozen_of_row _ _ 2 _ _ Rx_3.out
  have xx := heap_lt Rx_3.out
  go_wp2_with fail
  refine (tell_no _ 0 3 false _ (row_c Rk_3.out (i := 0) rfl) (.inl rfl)).mono ?_
  rintro e w5 ⟨rfl, rfl⟩
  clear dneg
  clear fx0 zx0 fx1 zx1 fx2 zx2 xx
  go_wp2_with fail
  refine (fails_any _ 0 false _ (row_c Rk_3.out (i := 0) rfl) rfl).mono ?_
  rintro e w6 ⟨rfl, rfl⟩
  have fx0 := row_c (i := 0) Rx_3.out rfl
  have zx0 := frozen_of_row _ _ 0 _ _ Rx_3.out
  have fx1 := row_c (i := 1) Rx_3.out rfl
  have zx1 := frozen_of_row _ _ 1 _ _ Rx_3.out
  have fx2 := row_c (i := 2) Rx_3.out rfl
  have zx2 := frozen_of_row _ _ 2 _ _ Rx_3.out
  have xx := heap_lt Rx_3.out
  go_wp2_with fail
  refine (isz_d (x := x) D1.out).mono ?_
  rintro e w7 ⟨rfl, hb⟩
  have L7 := Lib.hid (L3.out.step hb)
  clear fx0 zx0 fx1 zx1 fx2 zx2 xx
  have Rx_7 := Lib.hid (cells_of Rx_3.out hb)
  have Rr_7 := Lib.hid (cells_of Rr_3.out hb)
  have Rsl_7 := Lib.hid (cells_of Rsl_3.out hb)
  have Rk_7 := Lib.hid (cells_of Rk_3.out hb)
  clear hb 
  have fx0 := row_c (i := 0) Rx_7.out rfl
  have zx0 := frozen_of_row _ _ 0 _ _ Rx_7.out
  have fx1 := row_c (i := 1) Rx_7.out rfl
  have zx1 := frozen_of_row _ _ 1 _ _ Rx_7.out
  have fx2 := row_c (i := 2) Rx_7.out rfl
  have zx2 := frozen_of_row _ _ 2 _ _ Rx_7.out
  have xx := heap_lt Rx_7.out
  go_wp2_with fail
  refine (bits_b (L7.out.get (A := A) (c := c) (xs := digs m.natAbs) (by simp)) (Nat.le_trans lx.out (by omega)) HZ1.out).mono ?_
  rintro e w8 ⟨rfl, rfl⟩
  have hmax := HMAX.out
  clear fx0 zx0 fx1 zx1 fx2 zx2 xx
  have fx0 := row_c (i := 0) Rx_7.out rfl
  have zx0 := frozen_of_row _ _ 0 _ _ Rx_7.out
  have fx1 := row_c (i := 1) Rx_7.out rfl
  have zx1 := frozen_of_row _ _ 1 _ _ Rx_7.out
  have fx2 := row_c (i := 2) Rx_7.out rfl
  have zx2 := frozen_of_row _ _ 2 _ _ Rx_7.out
  have xx := heap_lt Rx_7.out
  go_wp2_with fail
  rw [HKO.out]
  clear hmax
  refine (lift_n (N := N) (L7.out.get (A := A) (c := c) (xs := digs m.natAbs) (by simp)) (Nat.le_trans lx.out (by omega)) HKK.out HKB.out HN.out).mono ?_
  rintro e w9 ⟨A9, c9, rfl, hd, hb⟩
  have L9 := Lib.hid ((L7.out.step hb).add hd)
  clear fx0 zx0 fx1 zx1 fx2 zx2 xx
  have Rx_9 := Lib.hid (cells_of Rx_7.out hb)
  have Rr_9 := Lib.hid (cells_of Rr_7.out hb)
  have Rsl_9 := Lib.hid (cells_of Rsl_7.out hb)
  have Rk_9 := Lib.hid (cells_of Rk_7.out hb)
  clear hb hd
  go_wp2_with fail
  refine (DM.out _ _ _ (L9.out.get (A := A9) (c := c9) (xs := digs N) (by simp))).mono ?_
  rintro e w10 ⟨A10, c10, B10, d10, rfl, hd, hd', hb⟩
  have L10 := Lib.hid (((L9.out.step hb).add hd).add hd')
  have Rx_10 := Lib.hid (cells_of Rx_9.out hb)
  have Rr_10 := Lib.hid (cells_of Rr_9.out hb)
  have Rsl_10 := Lib.hid (cells_of Rsl_9.out hb)
  have Rk_10 := Lib.hid (cells_of Rk_9.out hb)
  clear hb hd hd'
  have hq2 := HQ2.out
  have HMO2 := HMO.out
  have fx0 := row_c (i := 0) Rx_10.out rfl
  have zx0 := frozen_of_row _ _ 0 _ _ Rx_10.out
  have fx1 := row_c (i := 1) Rx_10.out rfl
  have zx1 := frozen_of_row _ _ 1 _ _ Rx_10.out
  have fx2 := row_c (i := 2) Rx_10.out rfl
  have zx2 := frozen_of_row _ _ 2 _ _ Rx_10.out
  have xx := heap_lt Rx_10.out
  go_wp2_with fail
  obtain ⟨w11, hW⟩ : ∃ W : World, W = (w10.alloc (.cells #[.bool false, .slice A10 (digs Q).length c10, .int .i64 hf] 26)) := ⟨_, rfl⟩
  rw [← hW]
  have hb : Below w10.heap.size w10 w11 := by rw [hW]; exact ((Below.refl _ _).alloc (by simp <;> omega) _)
  have L11 := Lib.hid (L10.out.step hb)
  have Rx_11 := Lib.hid (cells_of Rx_10.out hb)
  have Rr_11 := Lib.hid (cells_of Rr_10.out hb)
  have Rsl_11 := Lib.hid (cells_of Rsl_10.out hb)
  have Rk_11 := Lib.hid (cells_of Rk_10.out hb)
  have Rq_11 := Lib.hid (show w11.heap[w10.heap.size]? = some (.cells #[.bool false, .slice A10 (digs Q).length c10, .int .i64 hf] 26 (0, 0)) by rw [hW]; have := heap_alloc_new w10 (.cells #[.bool false, .slice A10 (digs Q).length c10, .int .i64 hf] 26); simpa using this)
  have Gq : w.heap.size ≤ w10.heap.size := by have := L10.out.1.size; omega
  have Nxq : w.heap.size < w10.heap.size := by have := heap_lt Rx_10.out; omega
  have Nrq : w.heap.size + 1 < w10.heap.size := by have := heap_lt Rr_10.out; omega
  have Nslq : w.heap.size + 1 + 1 < w10.heap.size := by have := heap_lt Rsl_10.out; omega
  have Nkq : w2.heap.size < w10.heap.size := by have := heap_lt Rk_10.out; omega
  clear hW hb
  clear fx0 zx0 fx1 zx1 fx2 zx2 xx
  refine (cut_any A10 c10 false up mo Q hf P p M E _ (L11.out.get (A := A10) (c := c10) (xs := digs Q) (by simp)) LQ.out (t32_live HT.out L11.out) HP2.out p2 p4 HB.out (by omega) (by omega) HM.out HE.out).mono ?_
  rintro e w12 ⟨A12, c12, rfl, hd, hb⟩
  have L12 := Lib.hid ((L11.out.step hb).add hd)
  have Rx_12 := Lib.hid (cells_of Rx_11.out hb)
  have Rr_12 := Lib.hid (cells_of Rr_11.out hb)
  have Rsl_12 := Lib.hid (cells_of Rsl_11.out hb)
  have Rk_12 := Lib.hid (cells_of Rk_11.out hb)
  have Rq_12 := Lib.hid (cells_of Rq_11.out hb)
  clear hb hd
  clear hq2 HMO2
  go_wp2_with fail
  refine (answer_d (row_c Rk_12.out (i := 0) rfl) (heap_lt Rk_12.out) (L12.out.get (A := A12) (c := c12) (xs := digs M.natAbs) (by simp)) (Nat.le_trans LM.out (by omega)) HQ.out).mono ?_
  rintro e w13 ⟨A13, c13, rfl, hd, hb⟩
  have L13 := Lib.hid ((L12.out.step hb).add hd)
  have Rx_13 := Lib.hid (cells_of Rx_12.out hb)
  have Rr_13 := Lib.hid (cells_of Rr_12.out hb)
  have Rsl_13 := Lib.hid (cells_of Rsl_12.out hb)
  have Rk_13 := Lib.hid (cells_of Rk_12.out hb)
  have Rq_13 := Lib.hid (cells_of Rq_12.out hb)
  clear hb hd
  have fr0 := row_c (i := 0) Rr_13.out rfl
  have zr0 := frozen_of_row _ _ 0 _ _ Rr_13.out
  have fr1 := row_c (i := 1) Rr_13.out rfl
  have zr1 := frozen_of_row _ _ 1 _ _ Rr_13.out
  have fr2 := row_c (i := 2) Rr_13.out rfl
  have zr2 := frozen_of_row _ _ 2 _ _ Rr_13.out
  have xr := heap_lt Rr_13.out
  go_wp2
  refine bodyPost_ret (v := .tuple #[.agg #[.bool (decide (M < 0)), .slice A13 (digs M.natAbs).length c13, .int .i64 E], .int .i64 0]) (by simp [results, Tryd.results44, go_sem, fr0, fr1, fr2]) rfl ?_
  
  refine ⟨A13, c13, rfl, ?_, ?_⟩
  · exact (fin3 L13.out Rr_13.out noint3 Gr).get (A := A13) (c := c13) (xs := digs M.natAbs) (by simp)
  · exact (fin3 L13.out Rr_13.out noint3 Gr).1

theorem dsqrt_yes {A : Option Addr} {c : Nat} {m x P M E : Int} {up : Bool} {w : World} (h : Dg w A c (digs m.natAbs)) (hl : (digs m.natAbs).length ≤ 10000) (r1 : Rt m x) (hT : T32 w) {p : Nat} (hP : (p : Int) = P) (p2 : 2 ≤ p) (p4 : p ≤ 400) (hs : RsOf (dv m x) p up M E) (hq : inR M E = true) (m0 : 0 ≤ m) :
    Calls Tryd.prog 44 #[.agg #[.bool (decide (m < 0)), .slice A (digs m.natAbs).length c, .int .i64 x], .int .i64 P, .bool up] w fun e w' => Ye M E 0 w e w' := by
  by_cases h0 : m = 0
  · exact sqrt_z_ A c m x P M E up w h hl r1 hT hP p2 p4 hs hq h0
  · exact sqrt_b_ A c m x P M E up w h hl r1 hT hP p2 p4 hs hq (by omega)
theorem div_yes {A B : Option Addr} {c d : Nat} {m n x y P M E : Int} {up : Bool} {w : World} (h : Dg w A c (digs m.natAbs)) (h' : Dg w B d (digs n.natAbs)) (hl : (digs m.natAbs).length ≤ 10000) (hl' : (digs n.natAbs).length ≤ 10000) (r1 : Rt m x) (r2 : Rt n y) (hT : T32 w) {p : Nat} (hP : (p : Int) = P) (p2 : 2 ≤ p) (p4 : p ≤ 400) (n0 : n ≠ 0) (hs : RdOf (dv m x / dv n y) p up M E) (hq : inR M E = true) :
    Calls Tryd.prog 42 #[.agg #[.bool (decide (m < 0)), .slice A (digs m.natAbs).length c, .int .i64 x], .agg #[.bool (decide (n < 0)), .slice B (digs n.natAbs).length d, .int .i64 y], .int .i64 P, .bool up] w fun e w' => Ye M E 0 w e w' := by
  by_cases m0 : m = 0
  · exact div_z_ A B c d m n x y P M E up w h h' hl hl' r1 r2 hT hP p2 p4 n0 hs hq m0
  · exact div_b_ A B c d m n x y P M E up w h h' hl hl' r1 r2 hT hP p2 p4 n0 hs hq m0
end Go.Proofs.YtnfafgpnnpapdaaDoor
end

section
/-
  The reference's Same, of numbers that are not the same too; the law's own 'same'.
-/
namespace Go.Proofs.YtnfafgpnnpapdaaDoor
open Go.RowKit
set_option linter.unusedSimpArgs false
set_option linter.unusedVariables false
theorem first_diff : ∀ (xs ys : List Nat), xs.length = ys.length → xs ≠ ys → ∃ i, i < xs.length ∧ xs[i]?.getD 0 ≠ ys[i]?.getD 0 ∧ ∀ j, j < i → xs[j]?.getD 0 = ys[j]?.getD 0 := by
  intro xs
  induction xs with
  | nil => intro ys h hne; cases ys; exact absurd rfl hne; simp at h
  | cons x r ih =>
    intro ys h hne
    rcases ys with _ | ⟨y, s⟩
    · simp at h
    · by_cases hx : x = y
      · subst hx
        obtain ⟨i, h1, h2, h3⟩ := ih s (by simpa using h) (fun e => hne (by rw [e]))
        refine ⟨i + 1, by simp; omega, by simpa using h2, fun j hj => ?_⟩
        rcases j with _ | j
        · rfl
        · simpa using h3 j (by omega)
      · exact ⟨0, by simp, by simpa using hx, fun j hj => by omega⟩
set_option maxHeartbeats 2000000 in
set_option maxRecDepth 100000 in
theorem Same_diff (A B : Option Addr) (c d : Nat) (s : Bool) (xs ys : List Nat) (w : World) (h : Dg w A c xs) (h' : Dg w B d ys) (hl : xs.length ≤ 16777216) (hlen : xs.length = ys.length) (hne : xs ≠ ys) :
    Calls Tryd.prog 109 #[.agg #[.bool s, .slice A xs.length c], .agg #[.bool s, .slice B xs.length d]] w fun e w' => e = .returned (.bool false) ∧ Below w.heap.size w w' := by
  obtain ⟨i, hi, hd, hs⟩ := first_diff xs ys hlen hne
  have hne : ((xs.length : Int) != (xs.length : Int)) = false := by simp
  have hns : (s != s) = false := by simp
  have H1 := Lib.hid (h.below (below2 w (.cells #[.bool s, .slice A xs.length c] 24) (.cells #[.bool s, .slice B xs.length d] 24)))
  have H2 := Lib.hid (h'.below (below2 w (.cells #[.bool s, .slice A xs.length c] 24) (.cells #[.bool s, .slice B xs.length d] 24)))
  have HS := Lib.hid hs
  have HD := Lib.hid hd
  have HLEN := Lib.hid hlen
  have hc1 := h.1
  have hc2 : xs.length ≤ d := by have := h'.1; omega
  clear h h' hs hd hlen
  go_enter Tryd.func109, Tryd.ntmps109
  go_wp2
  go_loopw [5] (fun v wr => (∃ k : Nat, k ≤ i ∧ v = .int .i64 k) ∧ ∃ m, wr = ((w.alloc (.cells #[.bool s, .slice A xs.length c] 24)).alloc (.cells #[.bool s, .slice B xs.length d] 24)).drewN m) (fun v _ => xs.length - (intOf v).toNat)
  case atStart => exact ⟨⟨0, Nat.zero_le _, rfl⟩, 0, rfl⟩
  case round =>
    obtain ⟨⟨k, hk, rfl⟩, m, rfl⟩ := hrel
    have hkl : k < xs.length := by omega
    obtain ⟨b, off, hA, hb, hcx⟩ := H1.out.2.2 (by omega)
    obtain ⟨b', off', hB, hb', hcy⟩ := H2.out.2.2 (by have := HLEN.out; omega)
    have hx := hcx k hkl
    have hy := hcy k (by have := HLEN.out; omega)
    by_cases hlt : k < i
    · rw [← HS.out k hlt] at hy
      generalize xs[k]?.getD 0 = x at *
      have t1 : ((x : Int) != (x : Int)) = false := by simp
      clear hcx hcy H1 H2
      subst hA hB
      go_wp2_with fail
      go_quiet (fail)
      go_wp2_with fail
      go_roundw
      case rel => exact ⟨⟨k + 1, by omega, by go_num⟩, _, rfl⟩
      case measure => simp [intOf]; omega
    · obtain rfl : k = i := by omega
      have hdd := HD.out
      generalize xs[k]?.getD 0 = x at *
      generalize ys[k]?.getD 0 = y at *
      have t1 : ((x : Int) != (y : Int)) = true := by simp; omega
      clear hcx hcy H1 H2 hdd
      subst hA hB
      go_wp2_with fail
      go_quiet (fail)
      go_wp2
      go_ret
      exact ⟨rfl, below_drewN (below_drewN (below2 _ _ _) _) _⟩
set_option maxHeartbeats 2000000 in
set_option maxRecDepth 100000 in
theorem Same_len (A B : Option Addr) (c d n k : Nat) (s r : Bool) (w : World) (hne : s ≠ r ∨ n ≠ k) :
    Calls Tryd.prog 109 #[.agg #[.bool s, .slice A n c], .agg #[.bool r, .slice B k d]] w fun e w' => e = .returned (.bool false) ∧ Below w.heap.size w w' := by
  by_cases hs : s = r
  · have hn : ((n : Int) != (k : Int)) = true := by
      have : n ≠ k := hne.resolve_left (fun h => h hs)
      simp; omega
    have hns : (s != s) = false := by simp
    subst hs
    clear hne
    go_enter Tryd.func109, Tryd.ntmps109
    go_wp2
    go_ret
    exact ⟨rfl, below2 _ _ _⟩
  · clear hne
    cases s <;> cases r
    · exact absurd rfl hs
    · clear hs
      go_enter Tryd.func109, Tryd.ntmps109
      go_wp2
      go_ret
      exact ⟨rfl, below2 _ _ _⟩
    · clear hs
      go_enter Tryd.func109, Tryd.ntmps109
      go_wp2
      go_ret
      exact ⟨rfl, below2 _ _ _⟩
    · exact absurd rfl hs
theorem Same_q {A B : Option Addr} {c d : Nat} {m n : Int} {q : Bool} {w : World} (h : Dg w A c (digs m.natAbs)) (h' : Dg w B d (digs n.natAbs)) (hl : (digs m.natAbs).length ≤ 16777216) (hq : decide (m = n) = q) :
    Calls Tryd.prog 109 #[.agg #[.bool (decide (m < 0)), .slice A (digs m.natAbs).length c], .agg #[.bool (decide (n < 0)), .slice B (digs n.natAbs).length d]] w fun e w' => e = .returned (.bool q) ∧ Below w.heap.size w w' := by
  by_cases hmn : m = n
  · subst hmn
    rw [decide_eq_true rfl] at hq; subst hq
    exact Same_any A B c d _ _ w h h' hl
  · rw [decide_eq_false hmn] at hq; subst hq
    by_cases hs : decide (m < 0) = decide (n < 0)
    · by_cases hlen : (digs m.natAbs).length = (digs n.natAbs).length
      · have := Same_diff A B c d (decide (m < 0)) _ _ w h h' hl hlen (fun e => hmn (by have := digs_inj e; rw [decide_eq_decide] at hs; omega))
        rw [← hs, ← hlen]; exact this
      · exact Same_len A B c d _ _ _ _ w (.inr hlen)
    · exact Same_len A B c d _ _ _ _ w (.inl hs)
set_option maxHeartbeats 2000000 in
set_option maxRecDepth 100000 in
theorem dSame_q {A B : Option Addr} {c d : Nat} {m n x y : Int} {q : Bool} {w : World} (h : Dg w A c (digs m.natAbs)) (h' : Dg w B d (digs n.natAbs)) (hl : (digs m.natAbs).length ≤ 10000) (hq : decide (m = n ∧ x = y) = q) :
    Calls Tryd.prog 59 #[.agg #[.bool (decide (m < 0)), .slice A (digs m.natAbs).length c, .int .i64 x], .agg #[.bool (decide (n < 0)), .slice B (digs n.natAbs).length d, .int .i64 y]] w fun e w' => e = .returned (.bool q) ∧ Below w.heap.size w w' := by
  by_cases hxy : x = y
  · subst hxy
    have HS := Lib.hid (fun W (h : Dg W A c (digs m.natAbs)) (h' : Dg W B d (digs n.natAbs)) => Same_q (q := q) h h' (by omega) (by rw [← hq]; simp))
    have H := Lib.hid h
    have H' := Lib.hid h'
    have t0 : (x == x) = true := by simp
    clear h h' hq
    go_enter Tryd.func59, Tryd.ntmps59
    go_wp2_with fail
    refine (HS.out _ (H.out.below (below2 _ _ _)) (H'.out.below (below2 _ _ _))).mono ?_
    rintro e w1 ⟨rfl, hb⟩
    have HB := Lib.hid ((below2 w _ _).trans (hb.mono (by simp; omega)))
    clear hb
    go_wp2
    go_ret
    exact ⟨rfl, HB.out⟩
  · have t0 : (x == y) = false := by simpa using hxy
    rw [decide_eq_false (fun e => hxy e.2)] at hq
    subst hq
    clear hxy h h'
    go_enter Tryd.func59, Tryd.ntmps59
    go_wp2
    go_ret
    exact ⟨rfl, below2 _ _ _⟩
set_option maxHeartbeats 2000000 in
set_option maxRecDepth 100000 in
theorem dsame_d {A B : Option Addr} {c d : Nat} {m n x y : Int} {q : Bool} {w : World} (h : Dg w A c (digs m.natAbs)) (h' : Dg w B d (digs n.natAbs)) (hl : (digs m.natAbs).length ≤ 10000) (hq : decide (m = n ∧ x = y) = q) :
    Calls Tryd.prog 19 #[.agg #[.bool (decide (m < 0)), .slice A (digs m.natAbs).length c, .int .i64 x], .agg #[.bool (decide (n < 0)), .slice B (digs n.natAbs).length d, .int .i64 y]] w fun e w' => e = .returned (.bool q) ∧ Below w.heap.size w w' := by
  have HS := Lib.hid (fun W (h : Dg W A c (digs m.natAbs)) (h' : Dg W B d (digs n.natAbs)) => dSame_q (q := q) (x := x) (y := y) h h' hl hq)
  have H := Lib.hid h
  have H' := Lib.hid h'
  clear h h' hq hl
  go_enter Tryd.func19, Tryd.ntmps19
  go_wp2_with fail
  refine (HS.out _ (H.out.below (below2 _ _ _)) (H'.out.below (below2 _ _ _))).mono ?_
  rintro e w1 ⟨rfl, hb⟩
  have HB := Lib.hid ((below2 w _ _).trans (hb.mono (by simp; omega)))
  clear hb
  go_wp2
  go_ret
  exact ⟨rfl, HB.out⟩
end Go.Proofs.YtnfafgpnnpapdaaDoor
end

section
/-
  zint.Small.
-/
namespace Go.Proofs.YtnfafgpnnpapdaaDoor
open Go.RowKit
theorem ret_ib {a b : Int} {p q : Bool} (h : a = b) (h' : p = q) : Ending.returned (.tuple #[.int .i64 a, .bool p]) = .returned (.tuple #[.int .i64 b, .bool q]) := by rw [h, h']
theorem wrap_i64_eq (x : Int) (h : -9223372036854775808 ≤ x) (h' : x ≤ 9223372036854775807) : IntKind.i64.wrap x = x := IntWalk.i64_in _ ⟨h, h'⟩
theorem turn_u64 (x : Nat) (h : 0 < x) (h' : x ≤ 9223372036854775808) : wrap64 (IntKind.u64.wrap (-(x : Int))) = -(x : Int) := by
  rw [wrap_u64_eq]; unfold wrap64; omega
set_option maxHeartbeats 2000000 in
set_option maxRecDepth 100000 in
theorem zsmall_neg (A : Option Addr) (c : Nat) (s : Bool) (xs : List Nat) (w : World) (h : Dg w A c xs) (hl : xs.length ≤ 1000000) (hz : s = true) (h0 : 0 < val xs) (h1 : val xs ≤ 9223372036854775808) :
    Calls Tryd.prog 102 #[.agg #[.bool s, .slice A xs.length c]] w fun e w' => e = .returned (.tuple #[.int .i64 (-(val xs : Int)), .bool true]) ∧ Below w.heap.size w w' := by
  have l1 := digs_len_le h.2.1
  obtain ⟨t1, ht1⟩ : ∃ t, (s && decide (0 < val xs)) = t := ⟨_, rfl⟩
  have TA := Lib.hid (fun W h => take_any A c s xs W h (by omega))
  have HC := Lib.hid (fun A1 c1 W h1 => small_any A1 c1 (digs (val xs)) W h1 (by omega))
  simp only [val_digs] at HC
  have e1 : (s && decide (0 < val xs)) = true := by rw [hz, decide_eq_true h0]; rfl
  rw [e1] at ht1
  rw [e1] at TA
  have hs : small? (val xs) = val xs := by unfold small?; rw [if_pos (by omega)]
  have hd : decide (val xs < 18446744073709551616) = true := decide_eq_true (by omega)
  rw [hs, hd] at HC
  have dd : decide (((val xs : Nat) : Int) ≤ 9223372036854775808) = true := by simp; omega
  have HT := Lib.hid (turn_u64 (val xs) h0 h1)
  clear hs hd e1 h0 h1 hz
  clear ht1
  generalize val xs = x at *
  go_enter Tryd.func102, Tryd.ntmps102
  go_wp2_with fail
  refine (TA.out _ (h.below (below1 _ _))).mono ?_
  rintro e w1 ⟨A1, c1, rfl, hd, hb⟩
  have K1 := Lib.hid hb
  have G1 := Lib.hid hd
  obtain ⟨hc1, hf1⟩ := bcell hb
  clear hb hd h
  go_wp2_with fail
  refine (HC.out A1 c1 _ (G1.out.below (below1 _ _))).mono ?_
  rintro e w2 ⟨rfl, nn, rfl⟩
  go_wp2
  go_ret2
  exact ⟨ret_ib HT.out rfl, below_drewN (((below1 w _).trans (K1.out.mono (by simp))).alloc (by have := K1.out.size; simp at this; omega) _) _⟩
set_option maxHeartbeats 2000000 in
set_option maxRecDepth 100000 in
theorem zsmall_pos (A : Option Addr) (c : Nat) (s : Bool) (xs : List Nat) (w : World) (h : Dg w A c xs) (hl : xs.length ≤ 1000000) (hz : (s && decide (0 < val xs)) = false) (h1 : val xs ≤ 9223372036854775807) :
    Calls Tryd.prog 102 #[.agg #[.bool s, .slice A xs.length c]] w fun e w' => e = .returned (.tuple #[.int .i64 ((val xs : Nat) : Int), .bool true]) ∧ Below w.heap.size w w' := by
  have l1 := digs_len_le h.2.1
  obtain ⟨t1, ht1⟩ : ∃ t, (s && decide (0 < val xs)) = t := ⟨_, rfl⟩
  have TA := Lib.hid (fun W h => take_any A c s xs W h (by omega))
  have HC := Lib.hid (fun A1 c1 W h1 => small_any A1 c1 (digs (val xs)) W h1 (by omega))
  simp only [val_digs] at HC
  rw [hz] at ht1
  rw [hz] at TA
  have hs : small? (val xs) = val xs := by unfold small?; rw [if_pos (by omega)]
  have hd : decide (val xs < 18446744073709551616) = true := decide_eq_true (by omega)
  rw [hs, hd] at HC
  have dd : decide (((val xs : Nat) : Int) ≤ 9223372036854775807) = true := by simp; omega
  have HT := Lib.hid (wrap_i64_eq (val xs) (by omega) (by omega))
  clear hs hd hz
  clear ht1
  generalize val xs = x at *
  go_enter Tryd.func102, Tryd.ntmps102
  go_wp2_with fail
  refine (TA.out _ (h.below (below1 _ _))).mono ?_
  rintro e w1 ⟨A1, c1, rfl, hd, hb⟩
  have K1 := Lib.hid hb
  have G1 := Lib.hid hd
  obtain ⟨hc1, hf1⟩ := bcell hb
  clear hb hd h
  go_wp2_with fail
  refine (HC.out A1 c1 _ (G1.out.below (below1 _ _))).mono ?_
  rintro e w2 ⟨rfl, nn, rfl⟩
  go_wp2
  go_ret2
  exact ⟨rfl, below_drewN (((below1 w _).trans (K1.out.mono (by simp))).alloc (by have := K1.out.size; simp at this; omega) _) _⟩
set_option maxHeartbeats 2000000 in
set_option maxRecDepth 100000 in
theorem zsmall_far (A : Option Addr) (c : Nat) (s : Bool) (xs : List Nat) (w : World) (h : Dg w A c xs) (hl : xs.length ≤ 1000000) (h1 : 18446744073709551616 ≤ val xs) :
    Calls Tryd.prog 102 #[.agg #[.bool s, .slice A xs.length c]] w fun e w' => e = .returned (.tuple #[.int .i64 0, .bool false]) ∧ Below w.heap.size w w' := by
  have l1 := digs_len_le h.2.1
  obtain ⟨t1, ht1⟩ : ∃ t, (s && decide (0 < val xs)) = t := ⟨_, rfl⟩
  have TA := Lib.hid (fun W h => take_any A c s xs W h (by omega))
  have HC := Lib.hid (fun A1 c1 W h1 => small_any A1 c1 (digs (val xs)) W h1 (by omega))
  simp only [val_digs] at HC
  rw [ht1] at TA
  have hd : decide (val xs < 18446744073709551616) = false := decide_eq_false (by omega)
  rw [hd] at HC
  clear hd
  clear ht1
  generalize val xs = x at *
  go_enter Tryd.func102, Tryd.ntmps102
  go_wp2_with fail
  refine (TA.out _ (h.below (below1 _ _))).mono ?_
  rintro e w1 ⟨A1, c1, rfl, hd, hb⟩
  have K1 := Lib.hid hb
  have G1 := Lib.hid hd
  obtain ⟨hc1, hf1⟩ := bcell hb
  clear hb hd h
  go_wp2_with fail
  refine (HC.out A1 c1 _ (G1.out.below (below1 _ _))).mono ?_
  rintro e w2 ⟨rfl, nn, rfl⟩
  go_wp2
  go_ret2
  exact ⟨rfl, below_drewN (((below1 w _).trans (K1.out.mono (by simp))).alloc (by have := K1.out.size; simp at this; omega) _) _⟩
set_option maxHeartbeats 2000000 in
set_option maxRecDepth 100000 in
theorem zsmall_negfar (A : Option Addr) (c : Nat) (s : Bool) (xs : List Nat) (w : World) (h : Dg w A c xs) (hl : xs.length ≤ 1000000) (hz : s = true) (h0 : 9223372036854775808 < val xs) (h1 : val xs < 18446744073709551616) :
    Calls Tryd.prog 102 #[.agg #[.bool s, .slice A xs.length c]] w fun e w' => e = .returned (.tuple #[.int .i64 0, .bool false]) ∧ Below w.heap.size w w' := by
  have l1 := digs_len_le h.2.1
  obtain ⟨t1, ht1⟩ : ∃ t, (s && decide (0 < val xs)) = t := ⟨_, rfl⟩
  have TA := Lib.hid (fun W h => take_any A c s xs W h (by omega))
  have HC := Lib.hid (fun A1 c1 W h1 => small_any A1 c1 (digs (val xs)) W h1 (by omega))
  simp only [val_digs] at HC
  have e1 : (s && decide (0 < val xs)) = true := by rw [hz, decide_eq_true (by omega)]; rfl
  rw [e1] at ht1
  rw [e1] at TA
  have hs : small? (val xs) = val xs := by unfold small?; rw [if_pos (by omega)]
  have hd : decide (val xs < 18446744073709551616) = true := decide_eq_true (by omega)
  rw [hs, hd] at HC
  have dd : decide (((val xs : Nat) : Int) ≤ 9223372036854775808) = false := by simp; omega
  clear hs hd e1 h0 h1 hz
  clear ht1
  generalize val xs = x at *
  go_enter Tryd.func102, Tryd.ntmps102
  go_wp2_with fail
  refine (TA.out _ (h.below (below1 _ _))).mono ?_
  rintro e w1 ⟨A1, c1, rfl, hd, hb⟩
  have K1 := Lib.hid hb
  have G1 := Lib.hid hd
  obtain ⟨hc1, hf1⟩ := bcell hb
  clear hb hd h
  go_wp2_with fail
  refine (HC.out A1 c1 _ (G1.out.below (below1 _ _))).mono ?_
  rintro e w2 ⟨rfl, nn, rfl⟩
  go_wp2
  go_ret2
  exact ⟨rfl, below_drewN (((below1 w _).trans (K1.out.mono (by simp))).alloc (by have := K1.out.size; simp at this; omega) _) _⟩
set_option maxHeartbeats 2000000 in
set_option maxRecDepth 100000 in
theorem zsmall_posfar (A : Option Addr) (c : Nat) (s : Bool) (xs : List Nat) (w : World) (h : Dg w A c xs) (hl : xs.length ≤ 1000000) (hz : (s && decide (0 < val xs)) = false) (h0 : 9223372036854775807 < val xs) (h1 : val xs < 18446744073709551616) :
    Calls Tryd.prog 102 #[.agg #[.bool s, .slice A xs.length c]] w fun e w' => e = .returned (.tuple #[.int .i64 0, .bool false]) ∧ Below w.heap.size w w' := by
  have l1 := digs_len_le h.2.1
  obtain ⟨t1, ht1⟩ : ∃ t, (s && decide (0 < val xs)) = t := ⟨_, rfl⟩
  have TA := Lib.hid (fun W h => take_any A c s xs W h (by omega))
  have HC := Lib.hid (fun A1 c1 W h1 => small_any A1 c1 (digs (val xs)) W h1 (by omega))
  simp only [val_digs] at HC
  rw [hz] at ht1
  rw [hz] at TA
  have hs : small? (val xs) = val xs := by unfold small?; rw [if_pos (by omega)]
  have hd : decide (val xs < 18446744073709551616) = true := decide_eq_true (by omega)
  rw [hs, hd] at HC
  have dd : decide (((val xs : Nat) : Int) ≤ 9223372036854775807) = false := by simp; omega
  clear hs hd hz
  clear ht1
  generalize val xs = x at *
  go_enter Tryd.func102, Tryd.ntmps102
  go_wp2_with fail
  refine (TA.out _ (h.below (below1 _ _))).mono ?_
  rintro e w1 ⟨A1, c1, rfl, hd, hb⟩
  have K1 := Lib.hid hb
  have G1 := Lib.hid hd
  obtain ⟨hc1, hf1⟩ := bcell hb
  clear hb hd h
  go_wp2_with fail
  refine (HC.out A1 c1 _ (G1.out.below (below1 _ _))).mono ?_
  rintro e w2 ⟨rfl, nn, rfl⟩
  go_wp2
  go_ret2
  exact ⟨rfl, below_drewN (((below1 w _).trans (K1.out.mono (by simp))).alloc (by have := K1.out.size; simp at this; omega) _) _⟩
/-- What Small answers. -/
def smallz (z : Int) : Int := if -9223372036854775808 ≤ z ∧ z ≤ 9223372036854775807 then z else 0
def smallb (z : Int) : Bool := decide (-9223372036854775808 ≤ z ∧ z ≤ 9223372036854775807)
theorem zsmall_any (A : Option Addr) (c : Nat) (s : Bool) (xs : List Nat) (w : World) (h : Dg w A c xs) (hl : xs.length ≤ 1000000) (q : Int) (ok : Bool) (hq : smallz (sg s (val xs)) = q) (hok : smallb (sg s (val xs)) = ok) :
    Calls Tryd.prog 102 #[.agg #[.bool s, .slice A xs.length c]] w fun e w' => e = .returned (.tuple #[.int .i64 q, .bool ok]) ∧ Below w.heap.size w w' := by
  subst hq hok
  rcases Nat.lt_or_ge (val xs) 18446744073709551616 with h1 | h1
  · cases ht : (s && decide (0 < val xs))
    · have e : sg s (val xs) = (val xs : Int) := by
        rw [← sg_take, ht]; rfl
      rw [e]
      rcases Nat.lt_or_ge 9223372036854775807 (val xs) with h2 | h2
      · refine (zsmall_posfar A c s xs w h hl ht h2 h1).mono fun e w' ⟨he, hb⟩ => ⟨he.trans ?_, hb⟩
        exact ret_ib (by unfold smallz; rw [if_neg (by omega)]) (by unfold smallb; exact (decide_eq_false (by omega)).symm)
      · refine (zsmall_pos A c s xs w h hl ht h2).mono fun e w' ⟨he, hb⟩ => ⟨he.trans ?_, hb⟩
        exact ret_ib (by unfold smallz; rw [if_pos (by omega)]) (by unfold smallb; exact (decide_eq_true (by omega)).symm)
    · have e : sg s (val xs) = -(val xs : Int) := by
        rw [← sg_take, ht]; rfl
      simp only [Bool.and_eq_true, decide_eq_true_eq] at ht
      rw [e]
      rcases Nat.lt_or_ge 9223372036854775808 (val xs) with h2 | h2
      · refine (zsmall_negfar A c s xs w h hl ht.1 h2 h1).mono fun e w' ⟨he, hb⟩ => ⟨he.trans ?_, hb⟩
        exact ret_ib (by unfold smallz; rw [if_neg (by omega)]) (by unfold smallb; exact (decide_eq_false (by omega)).symm)
      · refine (zsmall_neg A c s xs w h hl ht.1 ht.2 h2).mono fun e w' ⟨he, hb⟩ => ⟨he.trans ?_, hb⟩
        exact ret_ib (by unfold smallz; rw [if_pos (by omega)]) (by unfold smallb; exact (decide_eq_true (by omega)).symm)
  · have e : sg s (val xs) = (val xs : Int) ∨ sg s (val xs) = -(val xs : Int) := by unfold sg; cases s <;> simp
    refine (zsmall_far A c s xs w h hl h1).mono fun e' w' ⟨he, hb⟩ => ⟨he.trans ?_, hb⟩
    exact ret_ib (by unfold smallz; rw [if_neg (by omega)]) (by unfold smallb; exact (decide_eq_false (by omega)).symm)
end Go.Proofs.YtnfafgpnnpapdaaDoor
end

section
/-
  dyad.Make, From, Half.
-/
namespace Go.Proofs.YtnfafgpnnpapdaaDoor
open Go.RowKit
set_option linter.unusedSimpArgs false
set_option linter.unusedVariables false
set_option maxHeartbeats 4000000 in
set_option maxRecDepth 100000 in
theorem make_yes (A : Option Addr) (c : Nat) (s : Bool) (xs : List Nat) (y M E : Int) (w : World) (h : Dg w A c xs) (hl : xs.length ≤ 400000) (hT : T32 w) (hy0 : -100000 ≤ y) (hy1 : y ≤ 100000) (hM : nm (sg s (val xs)) = M) (hE : nx (sg s (val xs)) y = E) (hq : inR M E = true):
    Calls Tryd.prog 17 #[.agg #[.bool s, .slice A xs.length c], .int .i64 y] w fun e w' => Yb M E true w e w' := by
  have l1 := digs_len_le h.2.1
  have MK := Lib.hid (fun W (hW : Dg W A c xs) => zmake_any A c s xs W hW (by omega))
  obtain ⟨z, hz⟩ : ∃ z, sg s (val xs) = z := ⟨_, rfl⟩
  have hzl : (digs z.natAbs).length ≤ 400000 := by rw [← hz, sg_abs]; omega
  rw [hz] at MK hM hE
  have hml := nm_len z
  rw [hM] at hml
  have LZ := Lib.hid hzl
  have LM := Lib.hid (show (digs M.natAbs).length ≤ 400000 by omega)
  have HM := Lib.hid (show nm (sg (decide (z < 0)) z.natAbs) = M by rw [sg_abs2]; exact hM)
  have HE := Lib.hid (show nx (sg (decide (z < 0)) z.natAbs) y = E by rw [sg_abs2]; exact hE)
  have HQ := Lib.hid hq
  have d1 : decide (y < -100000) = false := by simp; omega
  have d2 : decide (100000 < y) = false := by simp; omega
  have HT := Lib.hid hT
  clear hT
  have L0 := Lib.hid ((live_start w).add h)
  clear h hz hzl hM hE hml hq l1
  go_enter Tryd.func17, Tryd.ntmps17
  go_wp2_with fail
  obtain ⟨v1, hW⟩ : ∃ W : World, W = ((w.alloc (.cells #[.bool s, .slice A xs.length c] 24)).alloc (.cells #[.bool false, .slice none 0 0, .int .i64 0] 26)) := ⟨_, rfl⟩
  rw [← hW]
  have hb : Below w.heap.size w v1 := by rw [hW]; exact (((Below.refl _ _).alloc (by simp <;> omega) _).alloc (by simp <;> omega) _)
  have L1 := Lib.hid (L0.out.step hb)
  have Rm_1 := Lib.hid (show v1.heap[w.heap.size]? = some (.cells #[.bool s, .slice A xs.length c] 24 (0, 0)) by rw [hW]; have := heap_alloc_new w (.cells #[.bool s, .slice A xs.length c] 24); rw [heap_alloc_old _ _ (by simp <;> omega)]; simpa using this)
  have Gm : w.heap.size ≤ w.heap.size := by have := L0.out.1.size; omega
  have Rr_1 := Lib.hid (show v1.heap[w.heap.size + 1]? = some (.cells #[.bool false, .slice none 0 0, .int .i64 0] 26 (0, 0)) by rw [hW]; have := heap_alloc_new (w.alloc (.cells #[.bool s, .slice A xs.length c] 24)) (.cells #[.bool false, .slice none 0 0, .int .i64 0] 26); simpa using this)
  have Gr : w.heap.size ≤ w.heap.size + 1 := by have := L0.out.1.size; omega
  have Nmr : w.heap.size < w.heap.size + 1 := by omega
  clear hW hb
  refine (MK.out _ (L1.out.get (A := A) (c := c) (xs := xs) (by simp))).mono ?_
  rintro e w2 ⟨A2, c2, rfl, hd, hb⟩
  have L2 := Lib.hid ((L1.out.step hb).add hd)
  have Rm_2 := Lib.hid (cells_of Rm_1.out hb)
  have Rr_2 := Lib.hid (cells_of Rr_1.out hb)
  clear hb hd
  have fm0 := row_c (i := 0) Rm_2.out rfl
  have zm0 := frozen_of_row _ _ 0 _ _ Rm_2.out
  have fm1 := row_c (i := 1) Rm_2.out rfl
  have zm1 := frozen_of_row _ _ 1 _ _ Rm_2.out
  have xm := heap_lt Rm_2.out
  go_wp2_with fail
  refine (odd_any A2 c2 (decide (z < 0)) z.natAbs y M E _ (L2.out.get (A := A2) (c := c2) (xs := digs z.natAbs) (by simp)) (Nat.le_trans LZ.out (by omega)) (t32_live HT.out L2.out) ⟨by omega, by omega⟩ HM.out HE.out).mono ?_
  rintro e w3 ⟨A3, c3, rfl, hd, hb⟩
  have L3 := Lib.hid ((L2.out.step hb).add hd)
  clear fm0 zm0 fm1 zm1 xm
  have Rm_3 := Lib.hid (cells_of Rm_2.out hb)
  have Rr_3 := Lib.hid (cells_of Rr_2.out hb)
  clear hb hd
  go_wp2_with fail
  obtain ⟨w4, hW⟩ : ∃ W : World, W = (w3.alloc (.cells #[.bool (decide (M < 0)), .slice A3 (digs M.natAbs).length c3, .int .i64 E] 26)) := ⟨_, rfl⟩
  rw [← hW]
  have hb : Below w3.heap.size w3 w4 := by rw [hW]; exact ((Below.refl _ _).alloc (by simp <;> omega) _)
  have L4 := Lib.hid (L3.out.step hb)
  have Rm_4 := Lib.hid (cells_of Rm_3.out hb)
  have Rr_4 := Lib.hid (cells_of Rr_3.out hb)
  have Rx_4 := Lib.hid (show w4.heap[w3.heap.size]? = some (.cells #[.bool (decide (M < 0)), .slice A3 (digs M.natAbs).length c3, .int .i64 E] 26 (0, 0)) by rw [hW]; have := heap_alloc_new w3 (.cells #[.bool (decide (M < 0)), .slice A3 (digs M.natAbs).length c3, .int .i64 E] 26); simpa using this)
  have Gx : w.heap.size ≤ w3.heap.size := by have := L3.out.1.size; omega
  have Nmx : w.heap.size < w3.heap.size := by have := heap_lt Rm_3.out; omega
  have Nrx : w.heap.size + 1 < w3.heap.size := by have := heap_lt Rr_3.out; omega
  clear hW hb
  refine (inRange_any A3 c3 (decide (M < 0)) M E _ (L4.out.get (A := A3) (c := c3) (xs := digs M.natAbs) (by simp)) true HQ.out (Nat.le_trans LM.out (by omega))).mono ?_
  rintro e w5 ⟨rfl, hb⟩
  have L5 := Lib.hid (L4.out.step hb)
  have Rm_5 := Lib.hid (cells_of Rm_4.out hb)
  have Rr_5 := Lib.hid (cells_of Rr_4.out hb)
  have Rx_5 := Lib.hid (cells_of Rx_4.out hb)
  clear hb 
  have fx0 := row_c (i := 0) Rx_5.out rfl
  have zx0 := frozen_of_row _ _ 0 _ _ Rx_5.out
  have fx1 := row_c (i := 1) Rx_5.out rfl
  have zx1 := frozen_of_row _ _ 1 _ _ Rx_5.out
  have fx2 := row_c (i := 2) Rx_5.out rfl
  have zx2 := frozen_of_row _ _ 2 _ _ Rx_5.out
  have xx := heap_lt Rx_5.out
  have fr0 := row_c (i := 0) Rr_5.out rfl
  have zr0 := frozen_of_row _ _ 0 _ _ Rr_5.out
  have fr1 := row_c (i := 1) Rr_5.out rfl
  have zr1 := frozen_of_row _ _ 1 _ _ Rr_5.out
  have fr2 := row_c (i := 2) Rr_5.out rfl
  have zr2 := frozen_of_row _ _ 2 _ _ Rr_5.out
  have xr := heap_lt Rr_5.out
  go_wp2
  refine bodyPost_ret (v := .tuple #[.agg #[.bool (decide (M < 0)), .slice A3 (digs M.natAbs).length c3, .int .i64 E], .bool true]) (by simp [results, Tryd.results17, go_sem, fx0, fx1, fx2, fr0, fr1, fr2]) rfl ?_
  
  refine ⟨A3, c3, rfl, ?_, ?_⟩
  · exact (fin3 L5.out Rr_5.out noint3 Gr).get (A := A3) (c := c3) (xs := digs M.natAbs) (by simp)
  · exact (fin3 L5.out Rr_5.out noint3 Gr).1

set_option maxHeartbeats 4000000 in
set_option maxRecDepth 100000 in
theorem from_yes (n M E : Int) (w : World) (hT : T32 w) (h0 : -9223372036854775808 ≤ n) (h1 : n ≤ 9223372036854775807) (hM : nm n = M) (hE : nx n 0 = E):
    Calls Tryd.prog 20 #[.int .i64 n] w fun e w' => Yr M E w e w' := by
  have FR := Lib.hid (fun W => zfrom_any n W h0 h1)
  have LN := Lib.hid (show (digs n.natAbs).length ≤ 2 from digs_small (by omega))
  have HM := Lib.hid (show nm (sg (decide (n < 0)) n.natAbs) = M by rw [sg_abs2]; exact hM)
  have HE := Lib.hid (show nx (sg (decide (n < 0)) n.natAbs) 0 = E by rw [sg_abs2]; exact hE)
  have HT := Lib.hid hT
  clear hT
  have L0 := Lib.hid (live_start w)
  clear h0 h1 hM hE
  go_enter Tryd.func20, Tryd.ntmps20
  go_wp2_with fail
  obtain ⟨v1, hW⟩ : ∃ W : World, W = (w.alloc (.cells #[.bool false, .slice none 0 0, .int .i64 0] 26)) := ⟨_, rfl⟩
  rw [← hW]
  have hb : Below w.heap.size w v1 := by rw [hW]; exact ((Below.refl _ _).alloc (by simp <;> omega) _)
  have L1 := Lib.hid (L0.out.step hb)
  have Rr_1 := Lib.hid (show v1.heap[w.heap.size]? = some (.cells #[.bool false, .slice none 0 0, .int .i64 0] 26 (0, 0)) by rw [hW]; have := heap_alloc_new w (.cells #[.bool false, .slice none 0 0, .int .i64 0] 26); simpa using this)
  have Gr : w.heap.size ≤ w.heap.size := by have := L0.out.1.size; omega
  clear hW hb
  refine (FR.out _).mono ?_
  rintro e w2 ⟨A2, c2, rfl, hd, hb⟩
  have L2 := Lib.hid ((L1.out.step hb).add hd)
  have Rr_2 := Lib.hid (cells_of Rr_1.out hb)
  clear hb hd
  go_wp2_with fail
  refine (odd_any A2 c2 (decide (n < 0)) n.natAbs 0 M E _ (L2.out.get (A := A2) (c := c2) (xs := digs n.natAbs) (by simp)) (Nat.le_trans LN.out (by omega)) (t32_live HT.out L2.out) ⟨by omega, by omega⟩ HM.out HE.out).mono ?_
  rintro e w3 ⟨A3, c3, rfl, hd, hb⟩
  have L3 := Lib.hid ((L2.out.step hb).add hd)
  have Rr_3 := Lib.hid (cells_of Rr_2.out hb)
  clear hb hd
  have fr0 := row_c (i := 0) Rr_3.out rfl
  have zr0 := frozen_of_row _ _ 0 _ _ Rr_3.out
  have fr1 := row_c (i := 1) Rr_3.out rfl
  have zr1 := frozen_of_row _ _ 1 _ _ Rr_3.out
  have fr2 := row_c (i := 2) Rr_3.out rfl
  have zr2 := frozen_of_row _ _ 2 _ _ Rr_3.out
  have xr := heap_lt Rr_3.out
  go_wp2
  refine bodyPost_ret (v := .agg #[.bool (decide (M < 0)), .slice A3 (digs M.natAbs).length c3, .int .i64 E]) (by simp [results, Tryd.results20, go_sem, fr0, fr1, fr2]) rfl ?_
  
  refine ⟨A3, c3, rfl, ?_, ?_⟩
  · exact (fin3 L3.out Rr_3.out noint3 Gr).get (A := A3) (c := c3) (xs := digs M.natAbs) (by simp)
  · exact (fin3 L3.out Rr_3.out noint3 Gr).1
end Go.Proofs.YtnfafgpnnpapdaaDoor
end
