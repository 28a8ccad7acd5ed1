import Derived.Test.YtnfafgpnnpapdaaDoorMB4
import Derived.Test.YtnfafgpnnpapdaaDoorMB1
section
/-
  dyad.Add.
-/
namespace Go.Proofs.YtnfafgpnnpapdaaDoor
open Go.RowKit
set_option linter.unusedSimpArgs false
set_option linter.unusedVariables false
theorem upto_len2 {m x e0 : Int} (hl : (digs m.natAbs).length ≤ 10000) (h : x - e0 ≤ 262144) : (digs (upto m x e0).natAbs).length ≤ 20000 := by
  have h1 := bl_bd hl
  have h2 := len_bl (upto m x e0)
  have h3 : bl (upto m x e0) ≤ 320000 + 262144 := by
    unfold bl
    by_cases h0 : m.natAbs = 0
    · rw [upto_abs, h0, Nat.zero_mul, blen_zero]; omega
    · rw [upto_abs, blen_up h0]; omega
  omega
theorem zadd_d {A B : Option Addr} {c d : Nat} {p q z : Int} {w : World} (h : Dg w A c (digs p.natAbs)) (h' : Dg w B d (digs q.natAbs)) (hl : (digs p.natAbs).length ≤ 1000000) (hl' : (digs q.natAbs).length ≤ 1000000) (hz : p + q = z) :
    Calls Tryd.prog 49 #[.agg #[.bool (decide (p < 0)), .slice A (digs p.natAbs).length c], .agg #[.bool (decide (q < 0)), .slice B (digs q.natAbs).length d]] w fun e w' => Zr z w e w' := by
  have := zadd_any A B c d (decide (p < 0)) (decide (q < 0)) (digs p.natAbs) (digs q.natAbs) w h h' hl hl'
  rw [sg_dz, sg_dz, hz] at this; exact this
theorem zmul_d {A B : Option Addr} {c d : Nat} {p q z : Int} {w : World} (h : Dg w A c (digs p.natAbs)) (h' : Dg w B d (digs q.natAbs)) (hl : (digs p.natAbs).length ≤ 500000) (hl' : (digs q.natAbs).length ≤ 500000) (hz : p * q = z) :
    Calls Tryd.prog 79 #[.agg #[.bool (decide (p < 0)), .slice A (digs p.natAbs).length c], .agg #[.bool (decide (q < 0)), .slice B (digs q.natAbs).length d]] w fun e w' => Zr z w e w' := by
  have := zmul_any A B c d (decide (p < 0)) (decide (q < 0)) (digs p.natAbs) (digs q.natAbs) w h h' hl hl'
  rw [sg_dz, sg_dz, hz] at this; exact this
theorem odd_d {A : Option Addr} {c : Nat} {z y M E : Int} {w : World} (h : Dg w A c (digs z.natAbs)) (hl : (digs z.natAbs).length ≤ 500000) (hT : T32 w) (hy0 : -1000000000 ≤ y) (hy1 : y ≤ 1000000000) (hM : nm z = M) (hE : nx z y = E) :
    Calls Tryd.prog 54 #[.agg #[.bool (decide (z < 0)), .slice A (digs z.natAbs).length c], .int .i64 y] w fun e w' => Yr M E w e w' :=
  odd_any A c (decide (z < 0)) z.natAbs y M E w h hl hT ⟨hy0, hy1⟩ (by rw [sg_abs2]; exact hM) (by rw [sg_abs2]; exact hE)
theorem answer_d {A : Option Addr} {c g : Nat} {M E : Int} {w : World} (hc : w.cell? ⟨g, 0, none⟩ = some (.int .i64 0)) (hg : g < w.heap.size) (h : Dg w A c (digs M.natAbs)) (hl : (digs M.natAbs).length ≤ 1000000) (hq : inR M E = true) :
    Calls Tryd.prog 75 #[.pointer (some ⟨g, 0, none⟩), .agg #[.bool (decide (M < 0)), .slice A (digs M.natAbs).length c, .int .i64 E]] w fun e w' => Ye M E 0 w e w' :=
  (answer_yes g A c (decide (M < 0)) M E w hc hg h hl hq).mono fun e w' ⟨he, hd, hb⟩ => ⟨A, (digs M.natAbs).length, he, hd, hb⟩
theorem isz_d {A : Option Addr} {c : Nat} {m x : Int} {q : Bool} {w : World} (hq : decide (m = 0) = q) :
    Calls Tryd.prog 63 #[.agg #[.bool (decide (m < 0)), .slice A (digs m.natAbs).length c, .int .i64 x]] w fun e w' => e = .returned (.bool q) ∧ Below w.heap.size w w' :=
  isZero_any A _ c _ x w q (by
    rw [← hq, Bool.eq_iff_iff]
    simp only [beq_iff_eq, decide_eq_true_eq]
    constructor
    · intro h
      have : (digs m.natAbs).length = 0 := by omega
      have := digs_nil.1 this; omega
    · rintro rfl
      show (((digs 0).length : Nat) : Int) = 0
      rw [digs_zero]; rfl)
theorem inr_len {M E : Int} (h : inR M E = true) : (digs M.natAbs).length ≤ 10000 := by
  have h2 := len_bl M
  unfold inR at h
  rw [decide_eq_true_eq] at h
  rcases h with h | h
  · subst h; show (digs 0).length ≤ 10000; rw [digs_zero]; simp
  · omega

set_option maxHeartbeats 4000000 in
set_option maxRecDepth 100000 in
theorem add_z_ (A B : Option Addr) (c d : Nat) (m n x y : Int) (M E : Int) (w : World) (h : Dg w A c (digs m.natAbs)) (h' : Dg w B d (digs n.natAbs)) (hl : (digs m.natAbs).length ≤ 10000) (hl' : (digs n.natAbs).length ≤ 10000) (r1 : Rt m x) (r2 : Rt n y) (hT : T32 w) (hs : IsD (dv m x + dv n y) M E) (hq : inR M E = true) (m0 : m = 0):
    Calls Tryd.prog 32 #[.agg #[.bool (decide (m < 0)), .slice A (digs m.natAbs).length c, .int .i64 x], .agg #[.bool (decide (n < 0)), .slice B (digs n.natAbs).length d, .int .i64 y]] w fun e w' => Ye M E 0 w e w' := by
  have HR1 := Lib.hid r1
  have HR2 := Lib.hid r2
  have lx := Lib.hid hl
  have ly := Lib.hid hl'
  have HQ := Lib.hid hq
  have x0 := r1.2.1
  have x1 := r1.2.2
  have y0 := r2.2.1
  have y1 := r2.2.2
  have LM := Lib.hid (inr_len hq)
  have d1 : decide (m = 0) = true := by simp [m0]
  have hu := IsD.uniq (show IsD (dv m x + dv n y) n y from ⟨r2.1, by rw [m0, dv_zero, Rat.zero_add]⟩) hs
  obtain ⟨rfl, rfl⟩ := hu
  have D1 := Lib.hid d1
  have HT := Lib.hid hT
  clear hT
  have L0 := Lib.hid (((live_start w).add h).add h')
  clear h h' hl hl' r1 r2 hs hq d1 m0
  go_enter Tryd.func32, Tryd.ntmps32
  go_wp2_with fail
  obtain ⟨v1, hW⟩ : ∃ W : World, W = ((((w.alloc (.cells #[.bool (decide (m < 0)), .slice A (digs m.natAbs).length c, .int .i64 x] 26)).alloc (.cells #[.bool (decide (n < 0)), .slice B (digs n.natAbs).length d, .int .i64 y] 26)).alloc (.cells #[.bool false, .slice none 0 0, .int .i64 0] 26)).alloc (.cells #[.bool (decide (m < 0)), .slice A (digs m.natAbs).length c, .int .i64 x, .bool (decide (n < 0)), .slice B (digs n.natAbs).length d, .int .i64 y] 26)) := ⟨_, rfl⟩
  rw [← hW]
  have hb : Below w.heap.size w v1 := by rw [hW]; exact (((((Below.refl _ _).alloc (by simp <;> omega) _).alloc (by simp <;> omega) _).alloc (by simp <;> omega) _).alloc (by simp <;> omega) _)
  have L1 := Lib.hid (L0.out.step hb)
  have Rx_1 := Lib.hid (show v1.heap[w.heap.size]? = some (.cells #[.bool (decide (m < 0)), .slice A (digs m.natAbs).length c, .int .i64 x] 26 (0, 0)) by rw [hW]; have := heap_alloc_new w (.cells #[.bool (decide (m < 0)), .slice A (digs m.natAbs).length c, .int .i64 x] 26); rw [heap_alloc_old _ _ (by simp <;> omega)]; rw [heap_alloc_old _ _ (by simp <;> omega)]; rw [heap_alloc_old _ _ (by simp <;> omega)]; simpa using this)
  have Gx : w.heap.size ≤ w.heap.size := by have := L0.out.1.size; omega
  have Ry_1 := Lib.hid (show v1.heap[w.heap.size + 1]? = some (.cells #[.bool (decide (n < 0)), .slice B (digs n.natAbs).length d, .int .i64 y] 26 (0, 0)) by rw [hW]; have := heap_alloc_new (w.alloc (.cells #[.bool (decide (m < 0)), .slice A (digs m.natAbs).length c, .int .i64 x] 26)) (.cells #[.bool (decide (n < 0)), .slice B (digs n.natAbs).length d, .int .i64 y] 26); rw [heap_alloc_old _ _ (by simp <;> omega)]; rw [heap_alloc_old _ _ (by simp <;> omega)]; simpa using this)
  have Gy : w.heap.size ≤ w.heap.size + 1 := by have := L0.out.1.size; omega
  have Nxy : w.heap.size < w.heap.size + 1 := by omega
  have Rr_1 := Lib.hid (show v1.heap[w.heap.size + 1 + 1]? = some (.cells #[.bool false, .slice none 0 0, .int .i64 0] 26 (0, 0)) by rw [hW]; have := heap_alloc_new ((w.alloc (.cells #[.bool (decide (m < 0)), .slice A (digs m.natAbs).length c, .int .i64 x] 26)).alloc (.cells #[.bool (decide (n < 0)), .slice B (digs n.natAbs).length d, .int .i64 y] 26)) (.cells #[.bool false, .slice none 0 0, .int .i64 0] 26); rw [heap_alloc_old _ _ (by simp <;> omega)]; simpa using this)
  have Gr : w.heap.size ≤ w.heap.size + 1 + 1 := by have := L0.out.1.size; omega
  have Nxr : w.heap.size < w.heap.size + 1 + 1 := by omega
  have Nyr : w.heap.size + 1 < w.heap.size + 1 + 1 := by omega
  have Rsl_1 := Lib.hid (show v1.heap[w.heap.size + 1 + 1 + 1]? = some (.cells #[.bool (decide (m < 0)), .slice A (digs m.natAbs).length c, .int .i64 x, .bool (decide (n < 0)), .slice B (digs n.natAbs).length d, .int .i64 y] 26 (0, 0)) by rw [hW]; have := heap_alloc_new (((w.alloc (.cells #[.bool (decide (m < 0)), .slice A (digs m.natAbs).length c, .int .i64 x] 26)).alloc (.cells #[.bool (decide (n < 0)), .slice B (digs n.natAbs).length d, .int .i64 y] 26)).alloc (.cells #[.bool false, .slice none 0 0, .int .i64 0] 26)) (.cells #[.bool (decide (m < 0)), .slice A (digs m.natAbs).length c, .int .i64 x, .bool (decide (n < 0)), .slice B (digs n.natAbs).length d, .int .i64 y] 26); simpa using this)
  have Gsl : w.heap.size ≤ w.heap.size + 1 + 1 + 1 := by have := L0.out.1.size; omega
  have Nxsl : w.heap.size < w.heap.size + 1 + 1 + 1 := by omega
  have Nysl : w.heap.size + 1 < w.heap.size + 1 + 1 + 1 := by omega
  have Nrsl : w.heap.size + 1 + 1 < w.heap.size + 1 + 1 + 1 := by omega
  clear hW hb
  refine (begin_2 Rsl_1.out (L1.out.get (A := A) (c := c) (xs := digs m.natAbs) (by simp)) (L1.out.get (A := B) (c := d) (xs := digs n.natAbs) (by simp)) (dyR_num HR1.out) (dyR_num HR2.out) (Nat.le_trans lx.out (by omega)) (Nat.le_trans ly.out (by omega)) (k := 0) rfl).mono ?_
  rintro e w2 ⟨rfl, hb⟩
  have L2 := Lib.hid (L1.out.step hb)
  have Rx_2 := Lib.hid (cells_of Rx_1.out hb)
  have Ry_2 := Lib.hid (cells_of Ry_1.out hb)
  have Rr_2 := Lib.hid (cells_of Rr_1.out hb)
  have Rsl_2 := Lib.hid (cells_of Rsl_1.out hb)
  clear hb 
  go_wp2_with fail
  obtain ⟨w3, hW⟩ : ∃ W : World, W = (w2.alloc (.cells #[.int .i64 0] 79)) := ⟨_, rfl⟩
  rw [← hW]
  have hb : Below w2.heap.size w2 w3 := by rw [hW]; exact ((Below.refl _ _).alloc (by simp <;> omega) _)
  have L3 := Lib.hid (L2.out.step hb)
  have Rx_3 := Lib.hid (cells_of Rx_2.out hb)
  have Ry_3 := Lib.hid (cells_of Ry_2.out hb)
  have Rr_3 := Lib.hid (cells_of Rr_2.out hb)
  have Rsl_3 := Lib.hid (cells_of Rsl_2.out hb)
  have Rk_3 := Lib.hid (show w3.heap[w2.heap.size]? = some (.cells #[.int .i64 0] 79 (0, 0)) by rw [hW]; have := heap_alloc_new w2 (.cells #[.int .i64 0] 79); simpa using this)
  have Gk : w.heap.size ≤ w2.heap.size := by have := L2.out.1.size; omega
  have Nxk : w.heap.size < w2.heap.size := by have := heap_lt Rx_2.out; omega
  have Nyk : w.heap.size + 1 < w2.heap.size := by have := heap_lt Ry_2.out; omega
  have Nrk : w.heap.size + 1 + 1 < w2.heap.size := by have := heap_lt Rr_2.out; omega
  have Nslk : w.heap.size + 1 + 1 + 1 < w2.heap.size := by have := heap_lt Rsl_2.out; omega
  clear hW hb
  refine (fails_any _ 0 false _ (row_c Rk_3.out (i := 0) rfl) rfl).mono ?_
  rintro e w4 ⟨rfl, rfl⟩
  have fx0 := row_c (i := 0) Rx_3.out rfl
  have zx0 := frozen_of_row _ _ 0 _ _ Rx_3.out
  have fx1 := row_c (i := 1) Rx_3.out rfl
  have zx1 := frozen_of_row _ _ 1 _ _ Rx_3.out
  have fx2 := row_c (i := 2) Rx_3.out rfl
  have zx2 := frozen_of_row _ _ 2 _ _ Rx_3.out
  have xx := heap_lt Rx_3.out
  go_wp2_with fail
  refine (isz_d (x := x) D1.out).mono ?_
  rintro e w5 ⟨rfl, hb⟩
  have L5 := Lib.hid (L3.out.step hb)
  clear fx0 zx0 fx1 zx1 fx2 zx2 xx
  have Rx_5 := Lib.hid (cells_of Rx_3.out hb)
  have Ry_5 := Lib.hid (cells_of Ry_3.out hb)
  have Rr_5 := Lib.hid (cells_of Rr_3.out hb)
  have Rsl_5 := Lib.hid (cells_of Rsl_3.out hb)
  have Rk_5 := Lib.hid (cells_of Rk_3.out hb)
  clear hb 
  have fy0 := row_c (i := 0) Ry_5.out rfl
  have zy0 := frozen_of_row _ _ 0 _ _ Ry_5.out
  have fy1 := row_c (i := 1) Ry_5.out rfl
  have zy1 := frozen_of_row _ _ 1 _ _ Ry_5.out
  have fy2 := row_c (i := 2) Ry_5.out rfl
  have zy2 := frozen_of_row _ _ 2 _ _ Ry_5.out
  have xy := heap_lt Ry_5.out
  go_wp2_with fail
  refine (answer_d (row_c Rk_5.out (i := 0) rfl) (heap_lt Rk_5.out) (L5.out.get (A := B) (c := d) (xs := digs n.natAbs) (by simp)) (Nat.le_trans LM.out (by omega)) HQ.out).mono ?_
  rintro e w6 ⟨A6, c6, rfl, hd, hb⟩
  have L6 := Lib.hid ((L5.out.step hb).add hd)
  clear fy0 zy0 fy1 zy1 fy2 zy2 xy
  have Rx_6 := Lib.hid (cells_of Rx_5.out hb)
  have Ry_6 := Lib.hid (cells_of Ry_5.out hb)
  have Rr_6 := Lib.hid (cells_of Rr_5.out hb)
  have Rsl_6 := Lib.hid (cells_of Rsl_5.out hb)
  have Rk_6 := Lib.hid (cells_of Rk_5.out hb)
  clear hb hd
  have fr0 := row_c (i := 0) Rr_6.out rfl
  have zr0 := frozen_of_row _ _ 0 _ _ Rr_6.out
  have fr1 := row_c (i := 1) Rr_6.out rfl
  have zr1 := frozen_of_row _ _ 1 _ _ Rr_6.out
  have fr2 := row_c (i := 2) Rr_6.out rfl
  have zr2 := frozen_of_row _ _ 2 _ _ Rr_6.out
  have xr := heap_lt Rr_6.out
  go_wp2
  refine bodyPost_ret (v := .tuple #[.agg #[.bool (decide (n < 0)), .slice A6 (digs n.natAbs).length c6, .int .i64 y], .int .i64 0]) (by simp [results, Tryd.results32, go_sem, fr0, fr1, fr2]) rfl ?_
  
  refine ⟨A6, c6, rfl, ?_, ?_⟩
  · exact (fin3 L6.out Rr_6.out noint3 Gr).get (A := A6) (c := c6) (xs := digs n.natAbs) (by simp)
  · exact (fin3 L6.out Rr_6.out noint3 Gr).1

set_option maxHeartbeats 4000000 in
set_option maxRecDepth 100000 in
theorem add_y_ (A B : Option Addr) (c d : Nat) (m n x y : Int) (M E : Int) (w : World) (h : Dg w A c (digs m.natAbs)) (h' : Dg w B d (digs n.natAbs)) (hl : (digs m.natAbs).length ≤ 10000) (hl' : (digs n.natAbs).length ≤ 10000) (r1 : Rt m x) (r2 : Rt n y) (hT : T32 w) (hs : IsD (dv m x + dv n y) M E) (hq : inR M E = true) (m0 : m ≠ 0) (n0 : n = 0):
    Calls Tryd.prog 32 #[.agg #[.bool (decide (m < 0)), .slice A (digs m.natAbs).length c, .int .i64 x], .agg #[.bool (decide (n < 0)), .slice B (digs n.natAbs).length d, .int .i64 y]] w fun e w' => Ye M E 0 w e w' := by
  have HR1 := Lib.hid r1
  have HR2 := Lib.hid r2
  have lx := Lib.hid hl
  have ly := Lib.hid hl'
  have HQ := Lib.hid hq
  have x0 := r1.2.1
  have x1 := r1.2.2
  have y0 := r2.2.1
  have y1 := r2.2.2
  have LM := Lib.hid (inr_len hq)
  have d1 : decide (m = 0) = false := by simp [m0]
  have d2 : decide (n = 0) = true := by simp [n0]
  have hu := IsD.uniq (show IsD (dv m x + dv n y) m x from ⟨r1.1, by rw [n0, dv_zero, Rat.add_zero]⟩) hs
  obtain ⟨rfl, rfl⟩ := hu
  have D1 := Lib.hid d1
  have D2 := Lib.hid d2
  have HT := Lib.hid hT
  clear hT
  have L0 := Lib.hid (((live_start w).add h).add h')
  clear h h' hl hl' r1 r2 hs hq d1 m0 d2 n0
  go_enter Tryd.func32, Tryd.ntmps32
  go_wp2_with fail
  obtain ⟨v1, hW⟩ : ∃ W : World, W = ((((w.alloc (.cells #[.bool (decide (m < 0)), .slice A (digs m.natAbs).length c, .int .i64 x] 26)).alloc (.cells #[.bool (decide (n < 0)), .slice B (digs n.natAbs).length d, .int .i64 y] 26)).alloc (.cells #[.bool false, .slice none 0 0, .int .i64 0] 26)).alloc (.cells #[.bool (decide (m < 0)), .slice A (digs m.natAbs).length c, .int .i64 x, .bool (decide (n < 0)), .slice B (digs n.natAbs).length d, .int .i64 y] 26)) := ⟨_, rfl⟩
  rw [← hW]
  have hb : Below w.heap.size w v1 := by rw [hW]; exact (((((Below.refl _ _).alloc (by simp <;> omega) _).alloc (by simp <;> omega) _).alloc (by simp <;> omega) _).alloc (by simp <;> omega) _)
  have L1 := Lib.hid (L0.out.step hb)
  have Rx_1 := Lib.hid (show v1.heap[w.heap.size]? = some (.cells #[.bool (decide (m < 0)), .slice A (digs m.natAbs).length c, .int .i64 x] 26 (0, 0)) by rw [hW]; have := heap_alloc_new w (.cells #[.bool (decide (m < 0)), .slice A (digs m.natAbs).length c, .int .i64 x] 26); rw [heap_alloc_old _ _ (by simp <;> omega)]; rw [heap_alloc_old _ _ (by simp <;> omega)]; rw [heap_alloc_old _ _ (by simp <;> omega)]; simpa using this)
  have Gx : w.heap.size ≤ w.heap.size := by have := L0.out.1.size; omega
  have Ry_1 := Lib.hid (show v1.heap[w.heap.size + 1]? = some (.cells #[.bool (decide (n < 0)), .slice B (digs n.natAbs).length d, .int .i64 y] 26 (0, 0)) by rw [hW]; have := heap_alloc_new (w.alloc (.cells #[.bool (decide (m < 0)), .slice A (digs m.natAbs).length c, .int .i64 x] 26)) (.cells #[.bool (decide (n < 0)), .slice B (digs n.natAbs).length d, .int .i64 y] 26); rw [heap_alloc_old _ _ (by simp <;> omega)]; rw [heap_alloc_old _ _ (by simp <;> omega)]; simpa using this)
  have Gy : w.heap.size ≤ w.heap.size + 1 := by have := L0.out.1.size; omega
  have Nxy : w.heap.size < w.heap.size + 1 := by omega
  have Rr_1 := Lib.hid (show v1.heap[w.heap.size + 1 + 1]? = some (.cells #[.bool false, .slice none 0 0, .int .i64 0] 26 (0, 0)) by rw [hW]; have := heap_alloc_new ((w.alloc (.cells #[.bool (decide (m < 0)), .slice A (digs m.natAbs).length c, .int .i64 x] 26)).alloc (.cells #[.bool (decide (n < 0)), .slice B (digs n.natAbs).length d, .int .i64 y] 26)) (.cells #[.bool false, .slice none 0 0, .int .i64 0] 26); rw [heap_alloc_old _ _ (by simp <;> omega)]; simpa using this)
  have Gr : w.heap.size ≤ w.heap.size + 1 + 1 := by have := L0.out.1.size; omega
  have Nxr : w.heap.size < w.heap.size + 1 + 1 := by omega
  have Nyr : w.heap.size + 1 < w.heap.size + 1 + 1 := by omega
  have Rsl_1 := Lib.hid (show v1.heap[w.heap.size + 1 + 1 + 1]? = some (.cells #[.bool (decide (m < 0)), .slice A (digs m.natAbs).length c, .int .i64 x, .bool (decide (n < 0)), .slice B (digs n.natAbs).length d, .int .i64 y] 26 (0, 0)) by rw [hW]; have := heap_alloc_new (((w.alloc (.cells #[.bool (decide (m < 0)), .slice A (digs m.natAbs).length c, .int .i64 x] 26)).alloc (.cells #[.bool (decide (n < 0)), .slice B (digs n.natAbs).length d, .int .i64 y] 26)).alloc (.cells #[.bool false, .slice none 0 0, .int .i64 0] 26)) (.cells #[.bool (decide (m < 0)), .slice A (digs m.natAbs).length c, .int .i64 x, .bool (decide (n < 0)), .slice B (digs n.natAbs).length d, .int .i64 y] 26); simpa using this)
  have Gsl : w.heap.size ≤ w.heap.size + 1 + 1 + 1 := by have := L0.out.1.size; omega
  have Nxsl : w.heap.size < w.heap.size + 1 + 1 + 1 := by omega
  have Nysl : w.heap.size + 1 < w.heap.size + 1 + 1 + 1 := by omega
  have Nrsl : w.heap.size + 1 + 1 < w.heap.size + 1 + 1 + 1 := by omega
  clear hW hb
  refine (begin_2 Rsl_1.out (L1.out.get (A := A) (c := c) (xs := digs m.natAbs) (by simp)) (L1.out.get (A := B) (c := d) (xs := digs n.natAbs) (by simp)) (dyR_num HR1.out) (dyR_num HR2.out) (Nat.le_trans lx.out (by omega)) (Nat.le_trans ly.out (by omega)) (k := 0) rfl).mono ?_
  rintro e w2 ⟨rfl, hb⟩
  have L2 := Lib.hid (L1.out.step hb)
  have Rx_2 := Lib.hid (cells_of Rx_1.out hb)
  have Ry_2 := Lib.hid (cells_of Ry_1.out hb)
  have Rr_2 := Lib.hid (cells_of Rr_1.out hb)
  have Rsl_2 := Lib.hid (cells_of Rsl_1.out hb)
  clear hb 
  go_wp2_with fail
  obtain ⟨w3, hW⟩ : ∃ W : World, W = (w2.alloc (.cells #[.int .i64 0] 79)) := ⟨_, rfl⟩
  rw [← hW]
  have hb : Below w2.heap.size w2 w3 := by rw [hW]; exact ((Below.refl _ _).alloc (by simp <;> omega) _)
  have L3 := Lib.hid (L2.out.step hb)
  have Rx_3 := Lib.hid (cells_of Rx_2.out hb)
  have Ry_3 := Lib.hid (cells_of Ry_2.out hb)
  have Rr_3 := Lib.hid (cells_of Rr_2.out hb)
  have Rsl_3 := Lib.hid (cells_of Rsl_2.out hb)
  have Rk_3 := Lib.hid (show w3.heap[w2.heap.size]? = some (.cells #[.int .i64 0] 79 (0, 0)) by rw [hW]; have := heap_alloc_new w2 (.cells #[.int .i64 0] 79); simpa using this)
  have Gk : w.heap.size ≤ w2.heap.size := by have := L2.out.1.size; omega
  have Nxk : w.heap.size < w2.heap.size := by have := heap_lt Rx_2.out; omega
  have Nyk : w.heap.size + 1 < w2.heap.size := by have := heap_lt Ry_2.out; omega
  have Nrk : w.heap.size + 1 + 1 < w2.heap.size := by have := heap_lt Rr_2.out; omega
  have Nslk : w.heap.size + 1 + 1 + 1 < w2.heap.size := by have := heap_lt Rsl_2.out; omega
  clear hW hb
  refine (fails_any _ 0 false _ (row_c Rk_3.out (i := 0) rfl) rfl).mono ?_
  rintro e w4 ⟨rfl, rfl⟩
  have fx0 := row_c (i := 0) Rx_3.out rfl
  have zx0 := frozen_of_row _ _ 0 _ _ Rx_3.out
  have fx1 := row_c (i := 1) Rx_3.out rfl
  have zx1 := frozen_of_row _ _ 1 _ _ Rx_3.out
  have fx2 := row_c (i := 2) Rx_3.out rfl
  have zx2 := frozen_of_row _ _ 2 _ _ Rx_3.out
  have xx := heap_lt Rx_3.out
  go_wp2_with fail
  refine (isz_d (x := x) D1.out).mono ?_
  rintro e w5 ⟨rfl, hb⟩
  have L5 := Lib.hid (L3.out.step hb)
  clear fx0 zx0 fx1 zx1 fx2 zx2 xx
  have Rx_5 := Lib.hid (cells_of Rx_3.out hb)
  have Ry_5 := Lib.hid (cells_of Ry_3.out hb)
  have Rr_5 := Lib.hid (cells_of Rr_3.out hb)
  have Rsl_5 := Lib.hid (cells_of Rsl_3.out hb)
  have Rk_5 := Lib.hid (cells_of Rk_3.out hb)
  clear hb 
  have fy0 := row_c (i := 0) Ry_5.out rfl
  have zy0 := frozen_of_row _ _ 0 _ _ Ry_5.out
  have fy1 := row_c (i := 1) Ry_5.out rfl
  have zy1 := frozen_of_row _ _ 1 _ _ Ry_5.out
  have fy2 := row_c (i := 2) Ry_5.out rfl
  have zy2 := frozen_of_row _ _ 2 _ _ Ry_5.out
  have xy := heap_lt Ry_5.out
  go_wp2_with fail
  refine (isz_d (x := y) D2.out).mono ?_
  rintro e w6 ⟨rfl, hb⟩
  have L6 := Lib.hid (L5.out.step hb)
  clear fy0 zy0 fy1 zy1 fy2 zy2 xy
  have Rx_6 := Lib.hid (cells_of Rx_5.out hb)
  have Ry_6 := Lib.hid (cells_of Ry_5.out hb)
  have Rr_6 := Lib.hid (cells_of Rr_5.out hb)
  have Rsl_6 := Lib.hid (cells_of Rsl_5.out hb)
  have Rk_6 := Lib.hid (cells_of Rk_5.out hb)
  clear hb 
  have fx0 := row_c (i := 0) Rx_6.out rfl
  have zx0 := frozen_of_row _ _ 0 _ _ Rx_6.out
  have fx1 := row_c (i := 1) Rx_6.out rfl
  have zx1 := frozen_of_row _ _ 1 _ _ Rx_6.out
  have fx2 := row_c (i := 2) Rx_6.out rfl
  have zx2 := frozen_of_row _ _ 2 _ _ Rx_6.out
  have xx := heap_lt Rx_6.out
  go_wp2_with fail
  refine (answer_d (row_c Rk_6.out (i := 0) rfl) (heap_lt Rk_6.out) (L6.out.get (A := A) (c := c) (xs := digs m.natAbs) (by simp)) (Nat.le_trans LM.out (by omega)) HQ.out).mono ?_
  rintro e w7 ⟨A7, c7, rfl, hd, hb⟩
  have L7 := Lib.hid ((L6.out.step hb).add hd)
  clear fx0 zx0 fx1 zx1 fx2 zx2 xx
  have Rx_7 := Lib.hid (cells_of Rx_6.out hb)
  have Ry_7 := Lib.hid (cells_of Ry_6.out hb)
  have Rr_7 := Lib.hid (cells_of Rr_6.out hb)
  have Rsl_7 := Lib.hid (cells_of Rsl_6.out hb)
  have Rk_7 := Lib.hid (cells_of Rk_6.out hb)
  clear hb hd
  have fr0 := row_c (i := 0) Rr_7.out rfl
  have zr0 := frozen_of_row _ _ 0 _ _ Rr_7.out
  have fr1 := row_c (i := 1) Rr_7.out rfl
  have zr1 := frozen_of_row _ _ 1 _ _ Rr_7.out
  have fr2 := row_c (i := 2) Rr_7.out rfl
  have zr2 := frozen_of_row _ _ 2 _ _ Rr_7.out
  have xr := heap_lt Rr_7.out
  go_wp2
  refine bodyPost_ret (v := .tuple #[.agg #[.bool (decide (m < 0)), .slice A7 (digs m.natAbs).length c7, .int .i64 x], .int .i64 0]) (by simp [results, Tryd.results32, go_sem, fr0, fr1, fr2]) rfl ?_
  
  refine ⟨A7, c7, rfl, ?_, ?_⟩
  · exact (fin3 L7.out Rr_7.out noint3 Gr).get (A := A7) (c := c7) (xs := digs m.natAbs) (by simp)
  · exact (fin3 L7.out Rr_7.out noint3 Gr).1

set_option maxHeartbeats 4000000 in
set_option maxRecDepth 100000 in
theorem add_b_ (A B : Option Addr) (c d : Nat) (m n x y : Int) (M E : Int) (w : World) (h : Dg w A c (digs m.natAbs)) (h' : Dg w B d (digs n.natAbs)) (hl : (digs m.natAbs).length ≤ 10000) (hl' : (digs n.natAbs).length ≤ 10000) (r1 : Rt m x) (r2 : Rt n y) (hT : T32 w) (hs : IsD (dv m x + dv n y) M E) (hq : inR M E = true) (m0 : m ≠ 0) (n0 : n ≠ 0):
    Calls Tryd.prog 32 #[.agg #[.bool (decide (m < 0)), .slice A (digs m.natAbs).length c, .int .i64 x], .agg #[.bool (decide (n < 0)), .slice B (digs n.natAbs).length d, .int .i64 y]] w fun e w' => Ye M E 0 w e w' := by
  have HR1 := Lib.hid r1
  have HR2 := Lib.hid r2
  have lx := Lib.hid hl
  have ly := Lib.hid hl'
  have HQ := Lib.hid hq
  have x0 := r1.2.1
  have x1 := r1.2.2
  have y0 := r2.2.1
  have y1 := r2.2.2
  have LM := Lib.hid (inr_len hq)
  have d1 : decide (m = 0) = false := by simp [m0]
  have d2 : decide (n = 0) = false := by simp [n0]
  obtain ⟨e0, he0⟩ : ∃ e, min x y = e := ⟨_, rfl⟩
  have ez := sum_upto m x n y
  rw [he0] at ez
  have lp := upto_len2 (m := m) (x := x) (e0 := e0) hl (by omega)
  have lq := upto_len2 (m := n) (x := y) (e0 := e0) hl' (by omega)
  have hu := IsD.of (m := upto m x e0 + upto n y e0) (e := e0) (M := M) (E := E) (by rw [ez]; exact hs)
  obtain ⟨p, hp⟩ : ∃ e, upto m x e0 = e := ⟨_, rfl⟩
  obtain ⟨q, hq2⟩ : ∃ e, upto n y e0 = e := ⟨_, rfl⟩
  rw [hp] at lp hu
  rw [hq2] at lq hu
  obtain ⟨z, hz⟩ : ∃ z, p + q = z := ⟨_, rfl⟩
  have lz : (digs z.natAbs).length ≤ 20001 := by
    rw [← hz]
    have h1 := digs_len_mono _ _ (by omega : (p + q).natAbs ≤ p.natAbs + q.natAbs)
    have h2 := digs_add_len p.natAbs q.natAbs
    omega
  rw [hz] at hu
  have HM := Lib.hid hu.1
  have HE := Lib.hid hu.2
  have HP := Lib.hid hp
  have HQ2 := Lib.hid hq2
  have HE0 := Lib.hid he0
  have HZ := Lib.hid hz
  have LP := Lib.hid lp
  have LQ := Lib.hid lq
  have LZ := Lib.hid lz
  have z0 : -1000000000 ≤ e0 := by omega
  have z1 : e0 ≤ 1000000000 := by omega
  have D1 := Lib.hid d1
  have D2 := Lib.hid d2
  have HT := Lib.hid hT
  clear hT
  have L0 := Lib.hid (((live_start w).add h).add h')
  clear h h' hl hl' r1 r2 hs hq d1 m0 d2 n0 hu hp hq2 lp lq lz he0 hz ez
  go_enter Tryd.func32, Tryd.ntmps32
  go_wp2_with fail
  obtain ⟨v1, hW⟩ : ∃ W : World, W = ((((w.alloc (.cells #[.bool (decide (m < 0)), .slice A (digs m.natAbs).length c, .int .i64 x] 26)).alloc (.cells #[.bool (decide (n < 0)), .slice B (digs n.natAbs).length d, .int .i64 y] 26)).alloc (.cells #[.bool false, .slice none 0 0, .int .i64 0] 26)).alloc (.cells #[.bool (decide (m < 0)), .slice A (digs m.natAbs).length c, .int .i64 x, .bool (decide (n < 0)), .slice B (digs n.natAbs).length d, .int .i64 y] 26)) := ⟨_, rfl⟩
  rw [← hW]
  have hb : Below w.heap.size w v1 := by rw [hW]; exact (((((Below.refl _ _).alloc (by simp <;> omega) _).alloc (by simp <;> omega) _).alloc (by simp <;> omega) _).alloc (by simp <;> omega) _)
  have L1 := Lib.hid (L0.out.step hb)
  have Rx_1 := Lib.hid (show v1.heap[w.heap.size]? = some (.cells #[.bool (decide (m < 0)), .slice A (digs m.natAbs).length c, .int .i64 x] 26 (0, 0)) by rw [hW]; have := heap_alloc_new w (.cells #[.bool (decide (m < 0)), .slice A (digs m.natAbs).length c, .int .i64 x] 26); rw [heap_alloc_old _ _ (by simp <;> omega)]; rw [heap_alloc_old _ _ (by simp <;> omega)]; rw [heap_alloc_old _ _ (by simp <;> omega)]; simpa using this)
  have Gx : w.heap.size ≤ w.heap.size := by have := L0.out.1.size; omega
  have Ry_1 := Lib.hid (show v1.heap[w.heap.size + 1]? = some (.cells #[.bool (decide (n < 0)), .slice B (digs n.natAbs).length d, .int .i64 y] 26 (0, 0)) by rw [hW]; have := heap_alloc_new (w.alloc (.cells #[.bool (decide (m < 0)), .slice A (digs m.natAbs).length c, .int .i64 x] 26)) (.cells #[.bool (decide (n < 0)), .slice B (digs n.natAbs).length d, .int .i64 y] 26); rw [heap_alloc_old _ _ (by simp <;> omega)]; rw [heap_alloc_old _ _ (by simp <;> omega)]; simpa using this)
  have Gy : w.heap.size ≤ w.heap.size + 1 := by have := L0.out.1.size; omega
  have Nxy : w.heap.size < w.heap.size + 1 := by omega
  have Rr_1 := Lib.hid (show v1.heap[w.heap.size + 1 + 1]? = some (.cells #[.bool false, .slice none 0 0, .int .i64 0] 26 (0, 0)) by rw [hW]; have := heap_alloc_new ((w.alloc (.cells #[.bool (decide (m < 0)), .slice A (digs m.natAbs).length c, .int .i64 x] 26)).alloc (.cells #[.bool (decide (n < 0)), .slice B (digs n.natAbs).length d, .int .i64 y] 26)) (.cells #[.bool false, .slice none 0 0, .int .i64 0] 26); rw [heap_alloc_old _ _ (by simp <;> omega)]; simpa using this)
  have Gr : w.heap.size ≤ w.heap.size + 1 + 1 := by have := L0.out.1.size; omega
  have Nxr : w.heap.size < w.heap.size + 1 + 1 := by omega
  have Nyr : w.heap.size + 1 < w.heap.size + 1 + 1 := by omega
  have Rsl_1 := Lib.hid (show v1.heap[w.heap.size + 1 + 1 + 1]? = some (.cells #[.bool (decide (m < 0)), .slice A (digs m.natAbs).length c, .int .i64 x, .bool (decide (n < 0)), .slice B (digs n.natAbs).length d, .int .i64 y] 26 (0, 0)) by rw [hW]; have := heap_alloc_new (((w.alloc (.cells #[.bool (decide (m < 0)), .slice A (digs m.natAbs).length c, .int .i64 x] 26)).alloc (.cells #[.bool (decide (n < 0)), .slice B (digs n.natAbs).length d, .int .i64 y] 26)).alloc (.cells #[.bool false, .slice none 0 0, .int .i64 0] 26)) (.cells #[.bool (decide (m < 0)), .slice A (digs m.natAbs).length c, .int .i64 x, .bool (decide (n < 0)), .slice B (digs n.natAbs).length d, .int .i64 y] 26); simpa using this)
  have Gsl : w.heap.size ≤ w.heap.size + 1 + 1 + 1 := by have := L0.out.1.size; omega
  have Nxsl : w.heap.size < w.heap.size + 1 + 1 + 1 := by omega
  have Nysl : w.heap.size + 1 < w.heap.size + 1 + 1 + 1 := by omega
  have Nrsl : w.heap.size + 1 + 1 < w.heap.size + 1 + 1 + 1 := by omega
  clear hW hb
  refine (begin_2 Rsl_1.out (L1.out.get (A := A) (c := c) (xs := digs m.natAbs) (by simp)) (L1.out.get (A := B) (c := d) (xs := digs n.natAbs) (by simp)) (dyR_num HR1.out) (dyR_num HR2.out) (Nat.le_trans lx.out (by omega)) (Nat.le_trans ly.out (by omega)) (k := 0) rfl).mono ?_
  rintro e w2 ⟨rfl, hb⟩
  have L2 := Lib.hid (L1.out.step hb)
  have Rx_2 := Lib.hid (cells_of Rx_1.out hb)
  have Ry_2 := Lib.hid (cells_of Ry_1.out hb)
  have Rr_2 := Lib.hid (cells_of Rr_1.out hb)
  have Rsl_2 := Lib.hid (cells_of Rsl_1.out hb)
  clear hb 
  go_wp2_with fail
  obtain ⟨w3, hW⟩ : ∃ W : World, W = (w2.alloc (.cells #[.int .i64 0] 79)) := ⟨_, rfl⟩
  rw [← hW]
  have hb : Below w2.heap.size w2 w3 := by rw [hW]; exact ((Below.refl _ _).alloc (by simp <;> omega) _)
  have L3 := Lib.hid (L2.out.step hb)
  have Rx_3 := Lib.hid (cells_of Rx_2.out hb)
  have Ry_3 := Lib.hid (cells_of Ry_2.out hb)
  have Rr_3 := Lib.hid (cells_of Rr_2.out hb)
  have Rsl_3 := Lib.hid (cells_of Rsl_2.out hb)
  have Rk_3 := Lib.hid (show w3.heap[w2.heap.size]? = some (.cells #[.int .i64 0] 79 (0, 0)) by rw [hW]; have := heap_alloc_new w2 (.cells #[.int .i64 0] 79); simpa using this)
  have Gk : w.heap.size ≤ w2.heap.size := by have := L2.out.1.size; omega
  have Nxk : w.heap.size < w2.heap.size := by have := heap_lt Rx_2.out; omega
  have Nyk : w.heap.size + 1 < w2.heap.size := by have := heap_lt Ry_2.out; omega
  have Nrk : w.heap.size + 1 + 1 < w2.heap.size := by have := heap_lt Rr_2.out; omega
  have Nslk : w.heap.size + 1 + 1 + 1 < w2.heap.size := by have := heap_lt Rsl_2.out; omega
  clear hW hb
  refine (fails_any _ 0 false _ (row_c Rk_3.out (i := 0) rfl) rfl).mono ?_
  rintro e w4 ⟨rfl, rfl⟩
  have fx0 := row_c (i := 0) Rx_3.out rfl
  have zx0 := frozen_of_row _ _ 0 _ _ Rx_3.out
  have fx1 := row_c (i := 1) Rx_3.out rfl
  have zx1 := frozen_of_row _ _ 1 _ _ Rx_3.out
  have fx2 := row_c (i := 2) Rx_3.out rfl
  have zx2 := frozen_of_row _ _ 2 _ _ Rx_3.out
  have xx := heap_lt Rx_3.out
  go_wp2_with fail
  refine (isz_d (x := x) D1.out).mono ?_
  rintro e w5 ⟨rfl, hb⟩
  have L5 := Lib.hid (L3.out.step hb)
  clear fx0 zx0 fx1 zx1 fx2 zx2 xx
  have Rx_5 := Lib.hid (cells_of Rx_3.out hb)
  have Ry_5 := Lib.hid (cells_of Ry_3.out hb)
  have Rr_5 := Lib.hid (cells_of Rr_3.out hb)
  have Rsl_5 := Lib.hid (cells_of Rsl_3.out hb)
  have Rk_5 := Lib.hid (cells_of Rk_3.out hb)
  clear hb 
  have fy0 := row_c (i := 0) Ry_5.out rfl
  have zy0 := frozen_of_row _ _ 0 _ _ Ry_5.out
  have fy1 := row_c (i := 1) Ry_5.out rfl
  have zy1 := frozen_of_row _ _ 1 _ _ Ry_5.out
  have fy2 := row_c (i := 2) Ry_5.out rfl
  have zy2 := frozen_of_row _ _ 2 _ _ Ry_5.out
  have xy := heap_lt Ry_5.out
  go_wp2_with fail
  refine (isz_d (x := y) D2.out).mono ?_
  rintro e w6 ⟨rfl, hb⟩
  have L6 := Lib.hid (L5.out.step hb)
  clear fy0 zy0 fy1 zy1 fy2 zy2 xy
  have Rx_6 := Lib.hid (cells_of Rx_5.out hb)
  have Ry_6 := Lib.hid (cells_of Ry_5.out hb)
  have Rr_6 := Lib.hid (cells_of Rr_5.out hb)
  have Rsl_6 := Lib.hid (cells_of Rsl_5.out hb)
  have Rk_6 := Lib.hid (cells_of Rk_5.out hb)
  clear hb 
  have fx0 := row_c (i := 0) Rx_6.out rfl
  have zx0 := frozen_of_row _ _ 0 _ _ Rx_6.out
  have fx1 := row_c (i := 1) Rx_6.out rfl
  have zx1 := frozen_of_row _ _ 1 _ _ Rx_6.out
  have fx2 := row_c (i := 2) Rx_6.out rfl
  have zx2 := frozen_of_row _ _ 2 _ _ Rx_6.out
  have xx := heap_lt Rx_6.out
  have fy0 := row_c (i := 0) Ry_6.out rfl
  have zy0 := frozen_of_row _ _ 0 _ _ Ry_6.out
  have fy1 := row_c (i := 1) Ry_6.out rfl
  have zy1 := frozen_of_row _ _ 1 _ _ Ry_6.out
  have fy2 := row_c (i := 2) Ry_6.out rfl
  have zy2 := frozen_of_row _ _ 2 _ _ Ry_6.out
  have xy := heap_lt Ry_6.out
  go_wp2_with fail
  refine (beside_any (p := p) (q := q) (e0 := e0) (L6.out.get (A := A) (c := c) (xs := digs m.natAbs) (by simp)) (L6.out.get (A := B) (c := d) (xs := digs n.natAbs) (by simp)) (Nat.le_trans lx.out (by omega)) (Nat.le_trans ly.out (by omega)) x0 x1 y0 y1 HE0.out HP.out HQ2.out).mono ?_
  rintro e w7 ⟨A7, c7, B7, d7, rfl, hd, hd', hb⟩
  have L7 := Lib.hid (((L6.out.step hb).add hd).add hd')
  clear fx0 zx0 fx1 zx1 fx2 zx2 xx fy0 zy0 fy1 zy1 fy2 zy2 xy
  have Rx_7 := Lib.hid (cells_of Rx_6.out hb)
  have Ry_7 := Lib.hid (cells_of Ry_6.out hb)
  have Rr_7 := Lib.hid (cells_of Rr_6.out hb)
  have Rsl_7 := Lib.hid (cells_of Rsl_6.out hb)
  have Rk_7 := Lib.hid (cells_of Rk_6.out hb)
  clear hb hd hd'
  go_wp2_with fail
  obtain ⟨w8, hW⟩ : ∃ W : World, W = ((w7.alloc (.cells #[.bool (decide (p < 0)), .slice A7 (digs p.natAbs).length c7] 24)).alloc (.cells #[.bool (decide (q < 0)), .slice B7 (digs q.natAbs).length d7] 24)) := ⟨_, rfl⟩
  rw [← hW]
  have hb : Below w7.heap.size w7 w8 := by rw [hW]; exact (((Below.refl _ _).alloc (by simp <;> omega) _).alloc (by simp <;> omega) _)
  have L8 := Lib.hid (L7.out.step hb)
  have Rx_8 := Lib.hid (cells_of Rx_7.out hb)
  have Ry_8 := Lib.hid (cells_of Ry_7.out hb)
  have Rr_8 := Lib.hid (cells_of Rr_7.out hb)
  have Rsl_8 := Lib.hid (cells_of Rsl_7.out hb)
  have Rk_8 := Lib.hid (cells_of Rk_7.out hb)
  have Ra_8 := Lib.hid (show w8.heap[w7.heap.size]? = some (.cells #[.bool (decide (p < 0)), .slice A7 (digs p.natAbs).length c7] 24 (0, 0)) by rw [hW]; have := heap_alloc_new w7 (.cells #[.bool (decide (p < 0)), .slice A7 (digs p.natAbs).length c7] 24); rw [heap_alloc_old _ _ (by simp <;> omega)]; simpa using this)
  have Ga : w.heap.size ≤ w7.heap.size := by have := L7.out.1.size; omega
  have Nxa : w.heap.size < w7.heap.size := by have := heap_lt Rx_7.out; omega
  have Nya : w.heap.size + 1 < w7.heap.size := by have := heap_lt Ry_7.out; omega
  have Nra : w.heap.size + 1 + 1 < w7.heap.size := by have := heap_lt Rr_7.out; omega
  have Nsla : w.heap.size + 1 + 1 + 1 < w7.heap.size := by have := heap_lt Rsl_7.out; omega
  have Nka : w2.heap.size < w7.heap.size := by have := heap_lt Rk_7.out; omega
  have Rb_8 := Lib.hid (show w8.heap[w7.heap.size + 1]? = some (.cells #[.bool (decide (q < 0)), .slice B7 (digs q.natAbs).length d7] 24 (0, 0)) by rw [hW]; have := heap_alloc_new (w7.alloc (.cells #[.bool (decide (p < 0)), .slice A7 (digs p.natAbs).length c7] 24)) (.cells #[.bool (decide (q < 0)), .slice B7 (digs q.natAbs).length d7] 24); simpa using this)
  have Gb : w.heap.size ≤ w7.heap.size + 1 := by have := L7.out.1.size; omega
  have Nxb : w.heap.size < w7.heap.size + 1 := by have := heap_lt Rx_7.out; omega
  have Nyb : w.heap.size + 1 < w7.heap.size + 1 := by have := heap_lt Ry_7.out; omega
  have Nrb : w.heap.size + 1 + 1 < w7.heap.size + 1 := by have := heap_lt Rr_7.out; omega
  have Nslb : w.heap.size + 1 + 1 + 1 < w7.heap.size + 1 := by have := heap_lt Rsl_7.out; omega
  have Nkb : w2.heap.size < w7.heap.size + 1 := by have := heap_lt Rk_7.out; omega
  have Nab : w7.heap.size < w7.heap.size + 1 := by omega
  clear hW hb
  refine (zadd_d (L8.out.get (A := A7) (c := c7) (xs := digs p.natAbs) (by simp)) (L8.out.get (A := B7) (c := d7) (xs := digs q.natAbs) (by simp)) (Nat.le_trans LP.out (by omega)) (Nat.le_trans LQ.out (by omega)) HZ.out).mono ?_
  rintro e w9 ⟨A9, c9, rfl, hd, hb⟩
  have L9 := Lib.hid ((L8.out.step hb).add hd)
  have Rx_9 := Lib.hid (cells_of Rx_8.out hb)
  have Ry_9 := Lib.hid (cells_of Ry_8.out hb)
  have Rr_9 := Lib.hid (cells_of Rr_8.out hb)
  have Rsl_9 := Lib.hid (cells_of Rsl_8.out hb)
  have Rk_9 := Lib.hid (cells_of Rk_8.out hb)
  have Ra_9 := Lib.hid (cells_of Ra_8.out hb)
  have Rb_9 := Lib.hid (cells_of Rb_8.out hb)
  clear hb hd
  go_wp2_with fail
  refine (odd_d (L9.out.get (A := A9) (c := c9) (xs := digs z.natAbs) (by simp)) (Nat.le_trans LZ.out (by omega)) (t32_live HT.out L9.out) z0 z1 HM.out HE.out).mono ?_
  rintro e w10 ⟨A10, c10, rfl, hd, hb⟩
  have L10 := Lib.hid ((L9.out.step hb).add hd)
  have Rx_10 := Lib.hid (cells_of Rx_9.out hb)
  have Ry_10 := Lib.hid (cells_of Ry_9.out hb)
  have Rr_10 := Lib.hid (cells_of Rr_9.out hb)
  have Rsl_10 := Lib.hid (cells_of Rsl_9.out hb)
  have Rk_10 := Lib.hid (cells_of Rk_9.out hb)
  have Ra_10 := Lib.hid (cells_of Ra_9.out hb)
  have Rb_10 := Lib.hid (cells_of Rb_9.out hb)
  clear hb hd
  go_wp2_with fail
  refine (answer_d (row_c Rk_10.out (i := 0) rfl) (heap_lt Rk_10.out) (L10.out.get (A := A10) (c := c10) (xs := digs M.natAbs) (by simp)) (Nat.le_trans LM.out (by omega)) HQ.out).mono ?_
  rintro e w11 ⟨A11, c11, rfl, hd, hb⟩
  have L11 := Lib.hid ((L10.out.step hb).add hd)
  have Rx_11 := Lib.hid (cells_of Rx_10.out hb)
  have Ry_11 := Lib.hid (cells_of Ry_10.out hb)
  have Rr_11 := Lib.hid (cells_of Rr_10.out hb)
  have Rsl_11 := Lib.hid (cells_of Rsl_10.out hb)
  have Rk_11 := Lib.hid (cells_of Rk_10.out hb)
  have Ra_11 := Lib.hid (cells_of Ra_10.out hb)
  have Rb_11 := Lib.hid (cells_of Rb_10.out hb)
  clear hb hd
  have fr0 := row_c (i := 0) Rr_11.out rfl
  have zr0 := frozen_of_row _ _ 0 _ _ Rr_11.out
  have fr1 := row_c (i := 1) Rr_11.out rfl
  have zr1 := frozen_of_row _ _ 1 _ _ Rr_11.out
  have fr2 := row_c (i := 2) Rr_11.out rfl
  have zr2 := frozen_of_row _ _ 2 _ _ Rr_11.out
  have xr := heap_lt Rr_11.out
  go_wp2
  refine bodyPost_ret (v := .tuple #[.agg #[.bool (decide (M < 0)), .slice A11 (digs M.natAbs).length c11, .int .i64 E], .int .i64 0]) (by simp [results, Tryd.results32, go_sem, fr0, fr1, fr2]) rfl ?_
  
  refine ⟨A11, c11, rfl, ?_, ?_⟩
  · exact (fin3 L11.out Rr_11.out noint3 Gr).get (A := A11) (c := c11) (xs := digs M.natAbs) (by simp)
  · exact (fin3 L11.out Rr_11.out noint3 Gr).1

theorem dadd_yes {A B : Option Addr} {c d : Nat} {m n x y M E : Int} {w : World} (h : Dg w A c (digs m.natAbs)) (h' : Dg w B d (digs n.natAbs)) (hl : (digs m.natAbs).length ≤ 10000) (hl' : (digs n.natAbs).length ≤ 10000) (r1 : Rt m x) (r2 : Rt n y) (hT : T32 w) (hs : IsD (dv m x + dv n y) M E) (hq : inR M E = true) :
    Calls Tryd.prog 32 #[.agg #[.bool (decide (m < 0)), .slice A (digs m.natAbs).length c, .int .i64 x], .agg #[.bool (decide (n < 0)), .slice B (digs n.natAbs).length d, .int .i64 y]] w fun e w' => Ye M E 0 w e w' := by
  by_cases m0 : m = 0
  · exact add_z_ A B c d m n x y M E w h h' hl hl' r1 r2 hT hs hq m0
  · by_cases n0 : n = 0
    · exact add_y_ A B c d m n x y M E w h h' hl hl' r1 r2 hT hs hq m0 n0
    · exact add_b_ A B c d m n x y M E w h h' hl hl' r1 r2 hT hs hq m0 n0
theorem rt_neg {m x : Int} (h : Rt m x) : Rt (-m) x := ⟨by rcases h.1 with h1 | h1; exact .inl (by omega); exact .inr (by omega), h.2⟩
end Go.Proofs.YtnfafgpnnpapdaaDoor
end

section
/-
  dyad.Neg.
-/
namespace Go.Proofs.YtnfafgpnnpapdaaDoor
open Go.RowKit
set_option linter.unusedSimpArgs false
set_option linter.unusedVariables false
set_option maxHeartbeats 4000000 in
set_option maxRecDepth 100000 in
theorem neg_yes (A : Option Addr) (c : Nat) (m x : Int) (w : World) (h : Dg w A c (digs m.natAbs)) (hl : (digs m.natAbs).length ≤ 500000) (hR : Rt m x):
    Calls Tryd.prog 24 #[.agg #[.bool (decide (m < 0)), .slice A (digs m.natAbs).length c, .int .i64 x]] w fun e w' => Yr (-m) x w e w' := by
  have DR := Lib.hid (fun W hW => dright_any A c (decide (m < 0)) (digs m.natAbs) x W hW true (dyR_num hR) (by omega))
  have NG := Lib.hid (fun W (hW : Dg W A c (digs m.natAbs)) => zneg_any A c (decide (m < 0)) (digs m.natAbs) W hW (by omega))
  rw [sg_dz] at NG
  obtain ⟨z, hz⟩ : ∃ z, -m = z := ⟨_, rfl⟩
  rw [hz] at NG ⊢
  have L0 := Lib.hid ((live_start w).add h)
  clear h hl hR hz
  go_enter Tryd.func24, Tryd.ntmps24
  go_wp2_with fail
  obtain ⟨v1, hW⟩ : ∃ W : World, W = ((w.alloc (.cells #[.bool (decide (m < 0)), .slice A (digs m.natAbs).length c, .int .i64 x] 26)).alloc (.cells #[.bool false, .slice none 0 0, .int .i64 0] 26)) := ⟨_, rfl⟩
  rw [← hW]
  have hb : Below w.heap.size w v1 := by rw [hW]; exact (((Below.refl _ _).alloc (by simp <;> omega) _).alloc (by simp <;> omega) _)
  have L1 := Lib.hid (L0.out.step hb)
  have Rx_1 := Lib.hid (show v1.heap[w.heap.size]? = some (.cells #[.bool (decide (m < 0)), .slice A (digs m.natAbs).length c, .int .i64 x] 26 (0, 0)) by rw [hW]; have := heap_alloc_new w (.cells #[.bool (decide (m < 0)), .slice A (digs m.natAbs).length c, .int .i64 x] 26); rw [heap_alloc_old _ _ (by simp <;> omega)]; simpa using this)
  have Gx : w.heap.size ≤ w.heap.size := by have := L0.out.1.size; omega
  have Rr_1 := Lib.hid (show v1.heap[w.heap.size + 1]? = some (.cells #[.bool false, .slice none 0 0, .int .i64 0] 26 (0, 0)) by rw [hW]; have := heap_alloc_new (w.alloc (.cells #[.bool (decide (m < 0)), .slice A (digs m.natAbs).length c, .int .i64 x] 26)) (.cells #[.bool false, .slice none 0 0, .int .i64 0] 26); simpa using this)
  have Gr : w.heap.size ≤ w.heap.size + 1 := by have := L0.out.1.size; omega
  have Nxr : w.heap.size < w.heap.size + 1 := by omega
  clear hW hb
  refine (DR.out _ (L1.out.get (A := A) (c := c) (xs := digs m.natAbs) (by simp))).mono ?_
  rintro e w2 ⟨rfl, hb⟩
  have L2 := Lib.hid (L1.out.step hb)
  have Rx_2 := Lib.hid (cells_of Rx_1.out hb)
  have Rr_2 := Lib.hid (cells_of Rr_1.out hb)
  clear hb 
  have fx0 := row_c (i := 0) Rx_2.out rfl
  have zx0 := frozen_of_row _ _ 0 _ _ Rx_2.out
  have fx1 := row_c (i := 1) Rx_2.out rfl
  have zx1 := frozen_of_row _ _ 1 _ _ Rx_2.out
  have fx2 := row_c (i := 2) Rx_2.out rfl
  have zx2 := frozen_of_row _ _ 2 _ _ Rx_2.out
  have xx := heap_lt Rx_2.out
  go_wp2_with fail
  clear fx0 zx0 fx1 zx1 fx2 zx2 xx
  have fx0 := row_c (i := 0) Rx_2.out rfl
  have zx0 := frozen_of_row _ _ 0 _ _ Rx_2.out
  have fx1 := row_c (i := 1) Rx_2.out rfl
  have zx1 := frozen_of_row _ _ 1 _ _ Rx_2.out
  have fx2 := row_c (i := 2) Rx_2.out rfl
  have zx2 := frozen_of_row _ _ 2 _ _ Rx_2.out
  have xx := heap_lt Rx_2.out
  have KD := Lib.hid (bd0 w2)
  have LD := Lib.hid (L2.out.step KD.out)
  have Mx : w.heap.size ≠ w.heap.size + 1 := by omega
  go_region_held3 (fun w' => (∀ o, w'.cell? ⟨w.heap.size, o, none⟩ = w2.cell? ⟨w.heap.size, o, none⟩))
    (first | with_reducible exact keep_b KD.out xx | with_reducible exact keep_b K4.out xx | exact (keep_set (keep_b K4.out xx) Mx) | exact (keep_set (keep_set (keep_b K4.out xx) Mx) Mx) | exact (keep_set (keep_set (keep_set (keep_b K4.out xx) Mx) Mx) Mx))
    (first
      | (go_at_call 61; (with_reducible refine (NG.out _ (LD.out.get (A := A) (c := c) (xs := digs m.natAbs) (by simp))).mono ?_); rintro e w4 ⟨A4, c4, rfl, hd, hb⟩; (have K4 := Lib.hid (KD.out.trans (hb.mono KD.out.size))); (have L4 := Lib.hid ((LD.out.step hb).add hd)); (have qr0_K4 := row_c (i := 0) (cells_of Rr_2.out K4.out) rfl); (have pr0_K4 := frozen_of_row _ _ 0 _ _ (cells_of Rr_2.out K4.out)); (have qr1_K4 := row_c (i := 1) (cells_of Rr_2.out K4.out) rfl); (have pr1_K4 := frozen_of_row _ _ 1 _ _ (cells_of Rr_2.out K4.out)); (have qr2_K4 := row_c (i := 2) (cells_of Rr_2.out K4.out) rfl); (have pr2_K4 := frozen_of_row _ _ 2 _ _ (cells_of Rr_2.out K4.out)); clear hb hd))
  rename_i hHeld
  clear hHeld
  clear fx0 zx0 fx1 zx1 fx2 zx2 xx
  have Rx_4 := Lib.hid (cells_of Rx_2.out K4.out)
  have Rr_4 := Lib.hid (cells_of Rr_2.out K4.out)
  have fr0 := row_c (i := 0) Rr_4.out rfl
  have zr0 := frozen_of_row _ _ 0 _ _ Rr_4.out
  have fr1 := row_c (i := 1) Rr_4.out rfl
  have zr1 := frozen_of_row _ _ 1 _ _ Rr_4.out
  have fr2 := row_c (i := 2) Rr_4.out rfl
  have zr2 := frozen_of_row _ _ 2 _ _ Rr_4.out
  have xr := heap_lt Rr_4.out
  go_wp2
  refine bodyPost_ret (v := .agg #[.bool (decide (z < 0)), .slice A4 (digs z.natAbs).length c4, .int .i64 x]) (by simp [results, Tryd.results24, go_sem, fr0, fr1, fr2]) rfl ?_
  
  refine ⟨A4, c4, rfl, ?_, ?_⟩
  · exact (fin3 L4.out Rr_4.out noint3 Gr).get (A := A4) (c := c4) (xs := digs z.natAbs) (by simp)
  · exact (fin3 L4.out Rr_4.out noint3 Gr).1
end Go.Proofs.YtnfafgpnnpapdaaDoor
end

section
/-
  dyad.Sub, Mul, Scale, Size.
-/
namespace Go.Proofs.YtnfafgpnnpapdaaDoor
open Go.RowKit
set_option linter.unusedSimpArgs false
set_option linter.unusedVariables false
set_option maxHeartbeats 4000000 in
set_option maxRecDepth 100000 in
theorem sub_yes_ (A B : Option Addr) (c d : Nat) (m n x y : Int) (M E : Int) (w : World) (h : Dg w A c (digs m.natAbs)) (h' : Dg w B d (digs n.natAbs)) (hl : (digs m.natAbs).length ≤ 10000) (hl' : (digs n.natAbs).length ≤ 10000) (r1 : Rt m x) (r2 : Rt n y) (hT : T32 w) (hs : IsD (dv m x - dv n y) M E) (hq : inR M E = true):
    Calls Tryd.prog 34 #[.agg #[.bool (decide (m < 0)), .slice A (digs m.natAbs).length c, .int .i64 x], .agg #[.bool (decide (n < 0)), .slice B (digs n.natAbs).length d, .int .i64 y]] w fun e w' => Ye M E 0 w e w' := by
  have HR1 := Lib.hid r1
  have HR2 := Lib.hid r2
  have lx := Lib.hid hl
  have ly := Lib.hid hl'
  have HQ := Lib.hid hq
  have x0 := r1.2.1
  have x1 := r1.2.2
  have y0 := r2.2.1
  have y1 := r2.2.2
  have LM := Lib.hid (inr_len hq)
  have NG := Lib.hid (fun W (hW : Dg W B d (digs n.natAbs)) => neg_yes B d n y W hW (by omega) r2)
  obtain ⟨k, hk⟩ : ∃ k, -n = k := ⟨_, rfl⟩
  have rk := Lib.hid (hk ▸ rt_neg r2)
  have lk := Lib.hid (show (digs k.natAbs).length ≤ 10000 by rw [← hk, Int.natAbs_neg]; exact hl')
  rw [hk] at NG
  have HS := Lib.hid (show IsD (dv m x + dv k y) M E by rw [← hk, dv_neg, ← Rat.sub_eq_add_neg]; exact hs)
  have HT := Lib.hid hT
  clear hT
  have L0 := Lib.hid (((live_start w).add h).add h')
  clear h h' hl hl' r1 r2 hs hq hk
  go_enter Tryd.func34, Tryd.ntmps34
  go_wp2_with fail
  obtain ⟨v1, hW⟩ : ∃ W : World, W = ((((w.alloc (.cells #[.bool (decide (m < 0)), .slice A (digs m.natAbs).length c, .int .i64 x] 26)).alloc (.cells #[.bool (decide (n < 0)), .slice B (digs n.natAbs).length d, .int .i64 y] 26)).alloc (.cells #[.bool false, .slice none 0 0, .int .i64 0] 26)).alloc (.cells #[.bool (decide (m < 0)), .slice A (digs m.natAbs).length c, .int .i64 x, .bool (decide (n < 0)), .slice B (digs n.natAbs).length d, .int .i64 y] 26)) := ⟨_, rfl⟩
  rw [← hW]
  have hb : Below w.heap.size w v1 := by rw [hW]; exact (((((Below.refl _ _).alloc (by simp <;> omega) _).alloc (by simp <;> omega) _).alloc (by simp <;> omega) _).alloc (by simp <;> omega) _)
  have L1 := Lib.hid (L0.out.step hb)
  have Rx_1 := Lib.hid (show v1.heap[w.heap.size]? = some (.cells #[.bool (decide (m < 0)), .slice A (digs m.natAbs).length c, .int .i64 x] 26 (0, 0)) by rw [hW]; have := heap_alloc_new w (.cells #[.bool (decide (m < 0)), .slice A (digs m.natAbs).length c, .int .i64 x] 26); rw [heap_alloc_old _ _ (by simp <;> omega)]; rw [heap_alloc_old _ _ (by simp <;> omega)]; rw [heap_alloc_old _ _ (by simp <;> omega)]; simpa using this)
  have Gx : w.heap.size ≤ w.heap.size := by have := L0.out.1.size; omega
  have Ry_1 := Lib.hid (show v1.heap[w.heap.size + 1]? = some (.cells #[.bool (decide (n < 0)), .slice B (digs n.natAbs).length d, .int .i64 y] 26 (0, 0)) by rw [hW]; have := heap_alloc_new (w.alloc (.cells #[.bool (decide (m < 0)), .slice A (digs m.natAbs).length c, .int .i64 x] 26)) (.cells #[.bool (decide (n < 0)), .slice B (digs n.natAbs).length d, .int .i64 y] 26); rw [heap_alloc_old _ _ (by simp <;> omega)]; rw [heap_alloc_old _ _ (by simp <;> omega)]; simpa using this)
  have Gy : w.heap.size ≤ w.heap.size + 1 := by have := L0.out.1.size; omega
  have Nxy : w.heap.size < w.heap.size + 1 := by omega
  have Rr_1 := Lib.hid (show v1.heap[w.heap.size + 1 + 1]? = some (.cells #[.bool false, .slice none 0 0, .int .i64 0] 26 (0, 0)) by rw [hW]; have := heap_alloc_new ((w.alloc (.cells #[.bool (decide (m < 0)), .slice A (digs m.natAbs).length c, .int .i64 x] 26)).alloc (.cells #[.bool (decide (n < 0)), .slice B (digs n.natAbs).length d, .int .i64 y] 26)) (.cells #[.bool false, .slice none 0 0, .int .i64 0] 26); rw [heap_alloc_old _ _ (by simp <;> omega)]; simpa using this)
  have Gr : w.heap.size ≤ w.heap.size + 1 + 1 := by have := L0.out.1.size; omega
  have Nxr : w.heap.size < w.heap.size + 1 + 1 := by omega
  have Nyr : w.heap.size + 1 < w.heap.size + 1 + 1 := by omega
  have Rsl_1 := Lib.hid (show v1.heap[w.heap.size + 1 + 1 + 1]? = some (.cells #[.bool (decide (m < 0)), .slice A (digs m.natAbs).length c, .int .i64 x, .bool (decide (n < 0)), .slice B (digs n.natAbs).length d, .int .i64 y] 26 (0, 0)) by rw [hW]; have := heap_alloc_new (((w.alloc (.cells #[.bool (decide (m < 0)), .slice A (digs m.natAbs).length c, .int .i64 x] 26)).alloc (.cells #[.bool (decide (n < 0)), .slice B (digs n.natAbs).length d, .int .i64 y] 26)).alloc (.cells #[.bool false, .slice none 0 0, .int .i64 0] 26)) (.cells #[.bool (decide (m < 0)), .slice A (digs m.natAbs).length c, .int .i64 x, .bool (decide (n < 0)), .slice B (digs n.natAbs).length d, .int .i64 y] 26); simpa using this)
  have Gsl : w.heap.size ≤ w.heap.size + 1 + 1 + 1 := by have := L0.out.1.size; omega
  have Nxsl : w.heap.size < w.heap.size + 1 + 1 + 1 := by omega
  have Nysl : w.heap.size + 1 < w.heap.size + 1 + 1 + 1 := by omega
  have Nrsl : w.heap.size + 1 + 1 < w.heap.size + 1 + 1 + 1 := by omega
  clear hW hb
  refine (begin_2 Rsl_1.out (L1.out.get (A := A) (c := c) (xs := digs m.natAbs) (by simp)) (L1.out.get (A := B) (c := d) (xs := digs n.natAbs) (by simp)) (dyR_num HR1.out) (dyR_num HR2.out) (Nat.le_trans lx.out (by omega)) (Nat.le_trans ly.out (by omega)) (k := 0) rfl).mono ?_
  rintro e w2 ⟨rfl, hb⟩
  have L2 := Lib.hid (L1.out.step hb)
  have Rx_2 := Lib.hid (cells_of Rx_1.out hb)
  have Ry_2 := Lib.hid (cells_of Ry_1.out hb)
  have Rr_2 := Lib.hid (cells_of Rr_1.out hb)
  have Rsl_2 := Lib.hid (cells_of Rsl_1.out hb)
  clear hb 
  go_wp2_with fail
  obtain ⟨w3, hW⟩ : ∃ W : World, W = (w2.alloc (.cells #[.int .i64 0] 79)) := ⟨_, rfl⟩
  rw [← hW]
  have hb : Below w2.heap.size w2 w3 := by rw [hW]; exact ((Below.refl _ _).alloc (by simp <;> omega) _)
  have L3 := Lib.hid (L2.out.step hb)
  have Rx_3 := Lib.hid (cells_of Rx_2.out hb)
  have Ry_3 := Lib.hid (cells_of Ry_2.out hb)
  have Rr_3 := Lib.hid (cells_of Rr_2.out hb)
  have Rsl_3 := Lib.hid (cells_of Rsl_2.out hb)
  have Rk_3 := Lib.hid (show w3.heap[w2.heap.size]? = some (.cells #[.int .i64 0] 79 (0, 0)) by rw [hW]; have := heap_alloc_new w2 (.cells #[.int .i64 0] 79); simpa using this)
  have Gk : w.heap.size ≤ w2.heap.size := by have := L2.out.1.size; omega
  have Nxk : w.heap.size < w2.heap.size := by have := heap_lt Rx_2.out; omega
  have Nyk : w.heap.size + 1 < w2.heap.size := by have := heap_lt Ry_2.out; omega
  have Nrk : w.heap.size + 1 + 1 < w2.heap.size := by have := heap_lt Rr_2.out; omega
  have Nslk : w.heap.size + 1 + 1 + 1 < w2.heap.size := by have := heap_lt Rsl_2.out; omega
  clear hW hb
  refine (fails_any _ 0 false _ (row_c Rk_3.out (i := 0) rfl) rfl).mono ?_
  rintro e w4 ⟨rfl, rfl⟩
  have fx0 := row_c (i := 0) Rx_3.out rfl
  have zx0 := frozen_of_row _ _ 0 _ _ Rx_3.out
  have fx1 := row_c (i := 1) Rx_3.out rfl
  have zx1 := frozen_of_row _ _ 1 _ _ Rx_3.out
  have fx2 := row_c (i := 2) Rx_3.out rfl
  have zx2 := frozen_of_row _ _ 2 _ _ Rx_3.out
  have xx := heap_lt Rx_3.out
  have fy0 := row_c (i := 0) Ry_3.out rfl
  have zy0 := frozen_of_row _ _ 0 _ _ Ry_3.out
  have fy1 := row_c (i := 1) Ry_3.out rfl
  have zy1 := frozen_of_row _ _ 1 _ _ Ry_3.out
  have fy2 := row_c (i := 2) Ry_3.out rfl
  have zy2 := frozen_of_row _ _ 2 _ _ Ry_3.out
  have xy := heap_lt Ry_3.out
  go_wp2_with fail
  clear fx0 zx0 fx1 zx1 fx2 zx2 xx fy0 zy0 fy1 zy1 fy2 zy2 xy
  have fx0 := row_c (i := 0) Rx_3.out rfl
  have zx0 := frozen_of_row _ _ 0 _ _ Rx_3.out
  have fx1 := row_c (i := 1) Rx_3.out rfl
  have zx1 := frozen_of_row _ _ 1 _ _ Rx_3.out
  have fx2 := row_c (i := 2) Rx_3.out rfl
  have zx2 := frozen_of_row _ _ 2 _ _ Rx_3.out
  have xx := heap_lt Rx_3.out
  have fy0 := row_c (i := 0) Ry_3.out rfl
  have zy0 := frozen_of_row _ _ 0 _ _ Ry_3.out
  have fy1 := row_c (i := 1) Ry_3.out rfl
  have zy1 := frozen_of_row _ _ 1 _ _ Ry_3.out
  have fy2 := row_c (i := 2) Ry_3.out rfl
  have zy2 := frozen_of_row _ _ 2 _ _ Ry_3.out
  have xy := heap_lt Ry_3.out
  have KD := Lib.hid (bd0 w3)
  have LD := Lib.hid (L3.out.step KD.out)
  have Mx : w.heap.size ≠ w.heap.size + 1 + 1 := by omega
  have My : w.heap.size + 1 ≠ w.heap.size + 1 + 1 := by omega
  go_region_held3 (fun w' => (∀ o, w'.cell? ⟨w.heap.size, o, none⟩ = w3.cell? ⟨w.heap.size, o, none⟩) ∧ (∀ o, w'.cell? ⟨w.heap.size + 1, o, none⟩ = w3.cell? ⟨w.heap.size + 1, o, none⟩))
    (first | with_reducible exact ⟨keep_b KD.out xx, keep_b KD.out xy⟩ | with_reducible exact ⟨keep_b K6.out xx, keep_b K6.out xy⟩ | with_reducible exact ⟨keep_b K7.out xx, keep_b K7.out xy⟩ | exact ⟨(keep_set (keep_b K7.out xx) Mx), (keep_set (keep_b K7.out xy) My)⟩ | exact ⟨(keep_set (keep_set (keep_b K7.out xx) Mx) Mx), (keep_set (keep_set (keep_b K7.out xy) My) My)⟩ | exact ⟨(keep_set (keep_set (keep_set (keep_b K7.out xx) Mx) Mx) Mx), (keep_set (keep_set (keep_set (keep_b K7.out xy) My) My) My)⟩)
    (first
      | (go_at_call 24; (with_reducible refine (NG.out _ (LD.out.get (A := B) (c := d) (xs := digs n.natAbs) (by simp))).mono ?_); rintro e w6 ⟨A6, c6, rfl, hd, hb⟩; (have K6 := Lib.hid (KD.out.trans (hb.mono KD.out.size))); (have L6 := Lib.hid ((LD.out.step hb).add hd)); clear hb hd)
      | (go_at_call 32; (with_reducible refine (dadd_yes (L6.out.get (A := A) (c := c) (xs := digs m.natAbs) (by simp)) (L6.out.get (A := A6) (c := c6) (xs := digs k.natAbs) (by simp)) lx.out lk.out HR1.out rk.out (t32_live HT.out L6.out) HS.out HQ.out).mono ?_); rintro e w7 ⟨A7, c7, rfl, hd, hb⟩; (have K7 := Lib.hid (K6.out.trans (hb.mono K6.out.size))); (have L7 := Lib.hid ((L6.out.step hb).add hd)); (have qr0_K7 := row_c (i := 0) (cells_of Rr_3.out K7.out) rfl); (have pr0_K7 := frozen_of_row _ _ 0 _ _ (cells_of Rr_3.out K7.out)); (have qr1_K7 := row_c (i := 1) (cells_of Rr_3.out K7.out) rfl); (have pr1_K7 := frozen_of_row _ _ 1 _ _ (cells_of Rr_3.out K7.out)); (have qr2_K7 := row_c (i := 2) (cells_of Rr_3.out K7.out) rfl); (have pr2_K7 := frozen_of_row _ _ 2 _ _ (cells_of Rr_3.out K7.out)); clear hb hd))
  rename_i hHeld
  clear hHeld
  clear fx0 zx0 fx1 zx1 fx2 zx2 xx fy0 zy0 fy1 zy1 fy2 zy2 xy
  have Rx_7 := Lib.hid (cells_of Rx_3.out K7.out)
  have Ry_7 := Lib.hid (cells_of Ry_3.out K7.out)
  have Rr_7 := Lib.hid (cells_of Rr_3.out K7.out)
  have Rsl_7 := Lib.hid (cells_of Rsl_3.out K7.out)
  have Rk_7 := Lib.hid (cells_of Rk_3.out K7.out)
  have fr0 := row_c (i := 0) Rr_7.out rfl
  have zr0 := frozen_of_row _ _ 0 _ _ Rr_7.out
  have fr1 := row_c (i := 1) Rr_7.out rfl
  have zr1 := frozen_of_row _ _ 1 _ _ Rr_7.out
  have fr2 := row_c (i := 2) Rr_7.out rfl
  have zr2 := frozen_of_row _ _ 2 _ _ Rr_7.out
  have xr := heap_lt Rr_7.out
  go_wp2
  refine bodyPost_ret (v := .tuple #[.agg #[.bool (decide (M < 0)), .slice A7 (digs M.natAbs).length c7, .int .i64 E], .int .i64 0]) (by simp [results, Tryd.results34, go_sem, fr0, fr1, fr2]) rfl ?_
  
  refine ⟨A7, c7, rfl, ?_, ?_⟩
  · exact (fin3 L7.out Rr_7.out noint3 Gr).get (A := A7) (c := c7) (xs := digs M.natAbs) (by simp)
  · exact (fin3 L7.out Rr_7.out noint3 Gr).1

set_option maxHeartbeats 4000000 in
set_option maxRecDepth 100000 in
theorem mul_yes_ (A B : Option Addr) (c d : Nat) (m n x y : Int) (M E : Int) (w : World) (h : Dg w A c (digs m.natAbs)) (h' : Dg w B d (digs n.natAbs)) (hl : (digs m.natAbs).length ≤ 10000) (hl' : (digs n.natAbs).length ≤ 10000) (r1 : Rt m x) (r2 : Rt n y) (hT : T32 w) (hs : IsD (dv m x * dv n y) M E) (hq : inR M E = true):
    Calls Tryd.prog 36 #[.agg #[.bool (decide (m < 0)), .slice A (digs m.natAbs).length c, .int .i64 x], .agg #[.bool (decide (n < 0)), .slice B (digs n.natAbs).length d, .int .i64 y]] w fun e w' => Ye M E 0 w e w' := by
  have HR1 := Lib.hid r1
  have HR2 := Lib.hid r2
  have lx := Lib.hid hl
  have ly := Lib.hid hl'
  have HQ := Lib.hid hq
  have x0 := r1.2.1
  have x1 := r1.2.2
  have y0 := r2.2.1
  have y1 := r2.2.2
  have LM := Lib.hid (inr_len hq)
  obtain ⟨z, hz⟩ : ∃ z, m * n = z := ⟨_, rfl⟩
  obtain ⟨s, hs1⟩ : ∃ s, x + y = s := ⟨_, rfl⟩
  rw [dv_mul, hz, hs1] at hs
  have hu := IsD.of hs
  have HM := Lib.hid hu.1
  have HE := Lib.hid hu.2
  have HZ := Lib.hid hz
  have lz : (digs z.natAbs).length ≤ 20000 := by
    rw [← hz, Int.natAbs_mul]
    have := digs_mul_len m.natAbs n.natAbs
    omega
  have LZ := Lib.hid lz
  have ws : IntKind.i64.wrap (x + y) = s := by rw [IntWalk.i64_in _ (by omega)]; exact hs1
  have z0 : -1000000000 ≤ s := by omega
  have z1 : s ≤ 1000000000 := by omega
  have HT := Lib.hid hT
  clear hT
  have L0 := Lib.hid (((live_start w).add h).add h')
  clear h h' hl hl' r1 r2 hs hq hz hs1 hu lz
  go_enter Tryd.func36, Tryd.ntmps36
  go_wp2_with fail
  obtain ⟨v1, hW⟩ : ∃ W : World, W = ((((w.alloc (.cells #[.bool (decide (m < 0)), .slice A (digs m.natAbs).length c, .int .i64 x] 26)).alloc (.cells #[.bool (decide (n < 0)), .slice B (digs n.natAbs).length d, .int .i64 y] 26)).alloc (.cells #[.bool false, .slice none 0 0, .int .i64 0] 26)).alloc (.cells #[.bool (decide (m < 0)), .slice A (digs m.natAbs).length c, .int .i64 x, .bool (decide (n < 0)), .slice B (digs n.natAbs).length d, .int .i64 y] 26)) := ⟨_, rfl⟩
  rw [← hW]
  have hb : Below w.heap.size w v1 := by rw [hW]; exact (((((Below.refl _ _).alloc (by simp <;> omega) _).alloc (by simp <;> omega) _).alloc (by simp <;> omega) _).alloc (by simp <;> omega) _)
  have L1 := Lib.hid (L0.out.step hb)
  have Rx_1 := Lib.hid (show v1.heap[w.heap.size]? = some (.cells #[.bool (decide (m < 0)), .slice A (digs m.natAbs).length c, .int .i64 x] 26 (0, 0)) by rw [hW]; have := heap_alloc_new w (.cells #[.bool (decide (m < 0)), .slice A (digs m.natAbs).length c, .int .i64 x] 26); rw [heap_alloc_old _ _ (by simp <;> omega)]; rw [heap_alloc_old _ _ (by simp <;> omega)]; rw [heap_alloc_old _ _ (by simp <;> omega)]; simpa using this)
  have Gx : w.heap.size ≤ w.heap.size := by have := L0.out.1.size; omega
  have Ry_1 := Lib.hid (show v1.heap[w.heap.size + 1]? = some (.cells #[.bool (decide (n < 0)), .slice B (digs n.natAbs).length d, .int .i64 y] 26 (0, 0)) by rw [hW]; have := heap_alloc_new (w.alloc (.cells #[.bool (decide (m < 0)), .slice A (digs m.natAbs).length c, .int .i64 x] 26)) (.cells #[.bool (decide (n < 0)), .slice B (digs n.natAbs).length d, .int .i64 y] 26); rw [heap_alloc_old _ _ (by simp <;> omega)]; rw [heap_alloc_old _ _ (by simp <;> omega)]; simpa using this)
  have Gy : w.heap.size ≤ w.heap.size + 1 := by have := L0.out.1.size; omega
  have Nxy : w.heap.size < w.heap.size + 1 := by omega
  have Rr_1 := Lib.hid (show v1.heap[w.heap.size + 1 + 1]? = some (.cells #[.bool false, .slice none 0 0, .int .i64 0] 26 (0, 0)) by rw [hW]; have := heap_alloc_new ((w.alloc (.cells #[.bool (decide (m < 0)), .slice A (digs m.natAbs).length c, .int .i64 x] 26)).alloc (.cells #[.bool (decide (n < 0)), .slice B (digs n.natAbs).length d, .int .i64 y] 26)) (.cells #[.bool false, .slice none 0 0, .int .i64 0] 26); rw [heap_alloc_old _ _ (by simp <;> omega)]; simpa using this)
  have Gr : w.heap.size ≤ w.heap.size + 1 + 1 := by have := L0.out.1.size; omega
  have Nxr : w.heap.size < w.heap.size + 1 + 1 := by omega
  have Nyr : w.heap.size + 1 < w.heap.size + 1 + 1 := by omega
  have Rsl_1 := Lib.hid (show v1.heap[w.heap.size + 1 + 1 + 1]? = some (.cells #[.bool (decide (m < 0)), .slice A (digs m.natAbs).length c, .int .i64 x, .bool (decide (n < 0)), .slice B (digs n.natAbs).length d, .int .i64 y] 26 (0, 0)) by rw [hW]; have := heap_alloc_new (((w.alloc (.cells #[.bool (decide (m < 0)), .slice A (digs m.natAbs).length c, .int .i64 x] 26)).alloc (.cells #[.bool (decide (n < 0)), .slice B (digs n.natAbs).length d, .int .i64 y] 26)).alloc (.cells #[.bool false, .slice none 0 0, .int .i64 0] 26)) (.cells #[.bool (decide (m < 0)), .slice A (digs m.natAbs).length c, .int .i64 x, .bool (decide (n < 0)), .slice B (digs n.natAbs).length d, .int .i64 y] 26); simpa using this)
  have Gsl : w.heap.size ≤ w.heap.size + 1 + 1 + 1 := by have := L0.out.1.size; omega
  have Nxsl : w.heap.size < w.heap.size + 1 + 1 + 1 := by omega
  have Nysl : w.heap.size + 1 < w.heap.size + 1 + 1 + 1 := by omega
  have Nrsl : w.heap.size + 1 + 1 < w.heap.size + 1 + 1 + 1 := by omega
  clear hW hb
  refine (begin_2 Rsl_1.out (L1.out.get (A := A) (c := c) (xs := digs m.natAbs) (by simp)) (L1.out.get (A := B) (c := d) (xs := digs n.natAbs) (by simp)) (dyR_num HR1.out) (dyR_num HR2.out) (Nat.le_trans lx.out (by omega)) (Nat.le_trans ly.out (by omega)) (k := 0) rfl).mono ?_
  rintro e w2 ⟨rfl, hb⟩
  have L2 := Lib.hid (L1.out.step hb)
  have Rx_2 := Lib.hid (cells_of Rx_1.out hb)
  have Ry_2 := Lib.hid (cells_of Ry_1.out hb)
  have Rr_2 := Lib.hid (cells_of Rr_1.out hb)
  have Rsl_2 := Lib.hid (cells_of Rsl_1.out hb)
  clear hb 
  go_wp2_with fail
  obtain ⟨w3, hW⟩ : ∃ W : World, W = (w2.alloc (.cells #[.int .i64 0] 79)) := ⟨_, rfl⟩
  rw [← hW]
  have hb : Below w2.heap.size w2 w3 := by rw [hW]; exact ((Below.refl _ _).alloc (by simp <;> omega) _)
  have L3 := Lib.hid (L2.out.step hb)
  have Rx_3 := Lib.hid (cells_of Rx_2.out hb)
  have Ry_3 := Lib.hid (cells_of Ry_2.out hb)
  have Rr_3 := Lib.hid (cells_of Rr_2.out hb)
  have Rsl_3 := Lib.hid (cells_of Rsl_2.out hb)
  have Rk_3 := Lib.hid (show w3.heap[w2.heap.size]? = some (.cells #[.int .i64 0] 79 (0, 0)) by rw [hW]; have := heap_alloc_new w2 (.cells #[.int .i64 0] 79); simpa using this)
  have Gk : w.heap.size ≤ w2.heap.size := by have := L2.out.1.size; omega
  have Nxk : w.heap.size < w2.heap.size := by have := heap_lt Rx_2.out; omega
  have Nyk : w.heap.size + 1 < w2.heap.size := by have := heap_lt Ry_2.out; omega
  have Nrk : w.heap.size + 1 + 1 < w2.heap.size := by have := heap_lt Rr_2.out; omega
  have Nslk : w.heap.size + 1 + 1 + 1 < w2.heap.size := by have := heap_lt Rsl_2.out; omega
  clear hW hb
  refine (fails_any _ 0 false _ (row_c Rk_3.out (i := 0) rfl) rfl).mono ?_
  rintro e w4 ⟨rfl, rfl⟩
  have fx0 := row_c (i := 0) Rx_3.out rfl
  have zx0 := frozen_of_row _ _ 0 _ _ Rx_3.out
  have fx1 := row_c (i := 1) Rx_3.out rfl
  have zx1 := frozen_of_row _ _ 1 _ _ Rx_3.out
  have fx2 := row_c (i := 2) Rx_3.out rfl
  have zx2 := frozen_of_row _ _ 2 _ _ Rx_3.out
  have xx := heap_lt Rx_3.out
  have fy0 := row_c (i := 0) Ry_3.out rfl
  have zy0 := frozen_of_row _ _ 0 _ _ Ry_3.out
  have fy1 := row_c (i := 1) Ry_3.out rfl
  have zy1 := frozen_of_row _ _ 1 _ _ Ry_3.out
  have fy2 := row_c (i := 2) Ry_3.out rfl
  have zy2 := frozen_of_row _ _ 2 _ _ Ry_3.out
  have xy := heap_lt Ry_3.out
  go_wp2_with fail
  clear fx0 zx0 fx1 zx1 fx2 zx2 xx fy0 zy0 fy1 zy1 fy2 zy2 xy
  have fx0 := row_c (i := 0) Rx_3.out rfl
  have zx0 := frozen_of_row _ _ 0 _ _ Rx_3.out
  have fx1 := row_c (i := 1) Rx_3.out rfl
  have zx1 := frozen_of_row _ _ 1 _ _ Rx_3.out
  have fx2 := row_c (i := 2) Rx_3.out rfl
  have zx2 := frozen_of_row _ _ 2 _ _ Rx_3.out
  have xx := heap_lt Rx_3.out
  have fy0 := row_c (i := 0) Ry_3.out rfl
  have zy0 := frozen_of_row _ _ 0 _ _ Ry_3.out
  have fy1 := row_c (i := 1) Ry_3.out rfl
  have zy1 := frozen_of_row _ _ 1 _ _ Ry_3.out
  have fy2 := row_c (i := 2) Ry_3.out rfl
  have zy2 := frozen_of_row _ _ 2 _ _ Ry_3.out
  have xy := heap_lt Ry_3.out
  have KD := Lib.hid (bd0 w3)
  have LD := Lib.hid (L3.out.step KD.out)
  have Mx : w.heap.size ≠ w.heap.size + 1 + 1 := by omega
  have My : w.heap.size + 1 ≠ w.heap.size + 1 + 1 := by omega
  go_region_held3 (fun w' => (∀ o, w'.cell? ⟨w.heap.size, o, none⟩ = w3.cell? ⟨w.heap.size, o, none⟩) ∧ (∀ o, w'.cell? ⟨w.heap.size + 1, o, none⟩ = w3.cell? ⟨w.heap.size + 1, o, none⟩))
    (first | with_reducible exact ⟨keep_b KD.out xx, keep_b KD.out xy⟩ | with_reducible exact ⟨keep_b K6.out xx, keep_b K6.out xy⟩ | with_reducible exact ⟨keep_b K7.out xx, keep_b K7.out xy⟩ | with_reducible exact ⟨keep_b K8.out xx, keep_b K8.out xy⟩ | exact ⟨(keep_set (keep_b K8.out xx) Mx), (keep_set (keep_b K8.out xy) My)⟩ | exact ⟨(keep_set (keep_set (keep_b K8.out xx) Mx) Mx), (keep_set (keep_set (keep_b K8.out xy) My) My)⟩ | exact ⟨(keep_set (keep_set (keep_set (keep_b K8.out xx) Mx) Mx) Mx), (keep_set (keep_set (keep_set (keep_b K8.out xy) My) My) My)⟩)
    (first
      | (go_at_call 79; (with_reducible refine (zmul_d (LD.out.get (A := A) (c := c) (xs := digs m.natAbs) (by simp)) (LD.out.get (A := B) (c := d) (xs := digs n.natAbs) (by simp)) (Nat.le_trans lx.out (by omega)) (Nat.le_trans ly.out (by omega)) HZ.out).mono ?_); rintro e w6 ⟨A6, c6, rfl, hd, hb⟩; (have K6 := Lib.hid (KD.out.trans (hb.mono KD.out.size))); (have L6 := Lib.hid ((LD.out.step hb).add hd)); clear hb hd)
      | (go_at_call 54; (with_reducible refine (odd_d (L6.out.get (A := A6) (c := c6) (xs := digs z.natAbs) (by simp)) (Nat.le_trans LZ.out (by omega)) (t32_live HT.out L6.out) z0 z1 HM.out HE.out).mono ?_); rintro e w7 ⟨A7, c7, rfl, hd, hb⟩; (have K7 := Lib.hid (K6.out.trans (hb.mono K6.out.size))); (have L7 := Lib.hid ((L6.out.step hb).add hd)); clear hb hd)
      | (go_at_call 75; (with_reducible refine (answer_d (row_c (cells_of Rk_3.out K7.out) (i := 0) rfl) (heap_lt (cells_of Rk_3.out K7.out)) (L7.out.get (A := A7) (c := c7) (xs := digs M.natAbs) (by simp)) (Nat.le_trans LM.out (by omega)) HQ.out).mono ?_); rintro e w8 ⟨A8, c8, rfl, hd, hb⟩; (have K8 := Lib.hid (K7.out.trans (hb.mono K7.out.size))); (have L8 := Lib.hid ((L7.out.step hb).add hd)); (have qr0_K8 := row_c (i := 0) (cells_of Rr_3.out K8.out) rfl); (have pr0_K8 := frozen_of_row _ _ 0 _ _ (cells_of Rr_3.out K8.out)); (have qr1_K8 := row_c (i := 1) (cells_of Rr_3.out K8.out) rfl); (have pr1_K8 := frozen_of_row _ _ 1 _ _ (cells_of Rr_3.out K8.out)); (have qr2_K8 := row_c (i := 2) (cells_of Rr_3.out K8.out) rfl); (have pr2_K8 := frozen_of_row _ _ 2 _ _ (cells_of Rr_3.out K8.out)); clear hb hd))
  rename_i hHeld
  clear hHeld
  clear fx0 zx0 fx1 zx1 fx2 zx2 xx fy0 zy0 fy1 zy1 fy2 zy2 xy
  have Rx_8 := Lib.hid (cells_of Rx_3.out K8.out)
  have Ry_8 := Lib.hid (cells_of Ry_3.out K8.out)
  have Rr_8 := Lib.hid (cells_of Rr_3.out K8.out)
  have Rsl_8 := Lib.hid (cells_of Rsl_3.out K8.out)
  have Rk_8 := Lib.hid (cells_of Rk_3.out K8.out)
  clear ws
  have fr0 := row_c (i := 0) Rr_8.out rfl
  have zr0 := frozen_of_row _ _ 0 _ _ Rr_8.out
  have fr1 := row_c (i := 1) Rr_8.out rfl
  have zr1 := frozen_of_row _ _ 1 _ _ Rr_8.out
  have fr2 := row_c (i := 2) Rr_8.out rfl
  have zr2 := frozen_of_row _ _ 2 _ _ Rr_8.out
  have xr := heap_lt Rr_8.out
  go_wp2
  refine bodyPost_ret (v := .tuple #[.agg #[.bool (decide (M < 0)), .slice A8 (digs M.natAbs).length c8, .int .i64 E], .int .i64 0]) (by simp [results, Tryd.results36, go_sem, fr0, fr1, fr2]) rfl ?_
  
  refine ⟨A8, c8, rfl, ?_, ?_⟩
  · exact (fin3 L8.out Rr_8.out noint3 Gr).get (A := A8) (c := c8) (xs := digs M.natAbs) (by simp)
  · exact (fin3 L8.out Rr_8.out noint3 Gr).1

theorem dsub_yes {A B : Option Addr} {c d : Nat} {m n x y M E : Int} {w : World} (h : Dg w A c (digs m.natAbs)) (h' : Dg w B d (digs n.natAbs)) (hl : (digs m.natAbs).length ≤ 10000) (hl' : (digs n.natAbs).length ≤ 10000) (r1 : Rt m x) (r2 : Rt n y) (hT : T32 w) (hs : IsD (dv m x - dv n y) M E) (hq : inR M E = true) :
    Calls Tryd.prog 34 #[.agg #[.bool (decide (m < 0)), .slice A (digs m.natAbs).length c, .int .i64 x], .agg #[.bool (decide (n < 0)), .slice B (digs n.natAbs).length d, .int .i64 y]] w fun e w' => Ye M E 0 w e w' := sub_yes_ A B c d m n x y M E w h h' hl hl' r1 r2 hT hs hq
theorem dmul_yes {A B : Option Addr} {c d : Nat} {m n x y M E : Int} {w : World} (h : Dg w A c (digs m.natAbs)) (h' : Dg w B d (digs n.natAbs)) (hl : (digs m.natAbs).length ≤ 10000) (hl' : (digs n.natAbs).length ≤ 10000) (r1 : Rt m x) (r2 : Rt n y) (hT : T32 w) (hs : IsD (dv m x * dv n y) M E) (hq : inR M E = true) :
    Calls Tryd.prog 36 #[.agg #[.bool (decide (m < 0)), .slice A (digs m.natAbs).length c, .int .i64 x], .agg #[.bool (decide (n < 0)), .slice B (digs n.natAbs).length d, .int .i64 y]] w fun e w' => Ye M E 0 w e w' := mul_yes_ A B c d m n x y M E w h h' hl hl' r1 r2 hT hs hq

set_option maxHeartbeats 4000000 in
set_option maxRecDepth 100000 in
theorem scale_yes_ (A : Option Addr) (c : Nat) (m x n M E : Int) (w : World) (h : Dg w A c (digs m.natAbs)) (hl : (digs m.natAbs).length ≤ 10000) (r1 : Rt m x) (hT : T32 w) (n0 : -100000 ≤ n) (n1 : n ≤ 100000) (hs : IsD (dv m (x + n)) M E) (hq : inR M E = true):
    Calls Tryd.prog 38 #[.agg #[.bool (decide (m < 0)), .slice A (digs m.natAbs).length c, .int .i64 x], .int .i64 n] w fun e w' => Ye M E 0 w e w' := by
  have HR1 := Lib.hid r1
  have lx := Lib.hid hl
  have HQ := Lib.hid hq
  have x0 := r1.2.1
  have x1 := r1.2.2
  have LM := Lib.hid (inr_len hq)
  obtain ⟨s, hs1⟩ : ∃ s, x + n = s := ⟨_, rfl⟩
  rw [hs1] at hs
  have hu := IsD.of hs
  have HM := Lib.hid hu.1
  have HE := Lib.hid hu.2
  have HS1 := Lib.hid hs1
  have d1 : decide (n < -100000) = false := by simp; omega
  have d2 : decide (100000 < n) = false := by simp; omega
  have z0 : -1000000000 ≤ x + n := by omega
  have z1 : x + n ≤ 1000000000 := by omega
  have HE2 := Lib.hid (show nx m (x + n) = E by rw [hs1]; exact hu.2)
  have HT := Lib.hid hT
  clear hT
  have L0 := Lib.hid ((live_start w).add h)
  clear h hl r1 hs hq hs1 hu
  go_enter Tryd.func38, Tryd.ntmps38
  go_wp2_with fail
  obtain ⟨v1, hW⟩ : ∃ W : World, W = (((w.alloc (.cells #[.bool (decide (m < 0)), .slice A (digs m.natAbs).length c, .int .i64 x] 26)).alloc (.cells #[.bool false, .slice none 0 0, .int .i64 0] 26)).alloc (.cells #[.bool (decide (m < 0)), .slice A (digs m.natAbs).length c, .int .i64 x] 26)) := ⟨_, rfl⟩
  rw [← hW]
  have hb : Below w.heap.size w v1 := by rw [hW]; exact ((((Below.refl _ _).alloc (by simp <;> omega) _).alloc (by simp <;> omega) _).alloc (by simp <;> omega) _)
  have L1 := Lib.hid (L0.out.step hb)
  have Rx_1 := Lib.hid (show v1.heap[w.heap.size]? = some (.cells #[.bool (decide (m < 0)), .slice A (digs m.natAbs).length c, .int .i64 x] 26 (0, 0)) by rw [hW]; have := heap_alloc_new w (.cells #[.bool (decide (m < 0)), .slice A (digs m.natAbs).length c, .int .i64 x] 26); rw [heap_alloc_old _ _ (by simp <;> omega)]; rw [heap_alloc_old _ _ (by simp <;> omega)]; simpa using this)
  have Gx : w.heap.size ≤ w.heap.size := by have := L0.out.1.size; omega
  have Rr_1 := Lib.hid (show v1.heap[w.heap.size + 1]? = some (.cells #[.bool false, .slice none 0 0, .int .i64 0] 26 (0, 0)) by rw [hW]; have := heap_alloc_new (w.alloc (.cells #[.bool (decide (m < 0)), .slice A (digs m.natAbs).length c, .int .i64 x] 26)) (.cells #[.bool false, .slice none 0 0, .int .i64 0] 26); rw [heap_alloc_old _ _ (by simp <;> omega)]; simpa using this)
  have Gr : w.heap.size ≤ w.heap.size + 1 := by have := L0.out.1.size; omega
  have Nxr : w.heap.size < w.heap.size + 1 := by omega
  have Rsl_1 := Lib.hid (show v1.heap[w.heap.size + 1 + 1]? = some (.cells #[.bool (decide (m < 0)), .slice A (digs m.natAbs).length c, .int .i64 x] 26 (0, 0)) by rw [hW]; have := heap_alloc_new ((w.alloc (.cells #[.bool (decide (m < 0)), .slice A (digs m.natAbs).length c, .int .i64 x] 26)).alloc (.cells #[.bool false, .slice none 0 0, .int .i64 0] 26)) (.cells #[.bool (decide (m < 0)), .slice A (digs m.natAbs).length c, .int .i64 x] 26); simpa using this)
  have Gsl : w.heap.size ≤ w.heap.size + 1 + 1 := by have := L0.out.1.size; omega
  have Nxsl : w.heap.size < w.heap.size + 1 + 1 := by omega
  have Nrsl : w.heap.size + 1 < w.heap.size + 1 + 1 := by omega
  clear hW hb
  refine (begin_1 Rsl_1.out (L1.out.get (A := A) (c := c) (xs := digs m.natAbs) (by simp)) (dyR_num HR1.out) (Nat.le_trans lx.out (by omega)) (k := 0) rfl).mono ?_
  rintro e w2 ⟨rfl, hb⟩
  have L2 := Lib.hid (L1.out.step hb)
  have Rx_2 := Lib.hid (cells_of Rx_1.out hb)
  have Rr_2 := Lib.hid (cells_of Rr_1.out hb)
  have Rsl_2 := Lib.hid (cells_of Rsl_1.out hb)
  clear hb 
  go_wp2_with fail
  obtain ⟨w3, hW⟩ : ∃ W : World, W = (w2.alloc (.cells #[.int .i64 0] 79)) := ⟨_, rfl⟩
  rw [← hW]
  have hb : Below w2.heap.size w2 w3 := by rw [hW]; exact ((Below.refl _ _).alloc (by simp <;> omega) _)
  have L3 := Lib.hid (L2.out.step hb)
  have Rx_3 := Lib.hid (cells_of Rx_2.out hb)
  have Rr_3 := Lib.hid (cells_of Rr_2.out hb)
  have Rsl_3 := Lib.hid (cells_of Rsl_2.out hb)
  have Rk_3 := Lib.hid (show w3.heap[w2.heap.size]? = some (.cells #[.int .i64 0] 79 (0, 0)) by rw [hW]; have := heap_alloc_new w2 (.cells #[.int .i64 0] 79); simpa using this)
  have Gk : w.heap.size ≤ w2.heap.size := by have := L2.out.1.size; omega
  have Nxk : w.heap.size < w2.heap.size := by have := heap_lt Rx_2.out; omega
  have Nrk : w.heap.size + 1 < w2.heap.size := by have := heap_lt Rr_2.out; omega
  have Nslk : w.heap.size + 1 + 1 < w2.heap.size := by have := heap_lt Rsl_2.out; omega
  clear hW hb
  refine (tell_no _ 0 4 false _ (row_c Rk_3.out (i := 0) rfl) (.inl rfl)).mono ?_
  rintro e w4 ⟨rfl, rfl⟩
  go_wp2_with fail
  refine (fails_any _ 0 false _ (row_c Rk_3.out (i := 0) rfl) rfl).mono ?_
  rintro e w5 ⟨rfl, rfl⟩
  have fx0 := row_c (i := 0) Rx_3.out rfl
  have zx0 := frozen_of_row _ _ 0 _ _ Rx_3.out
  have fx1 := row_c (i := 1) Rx_3.out rfl
  have zx1 := frozen_of_row _ _ 1 _ _ Rx_3.out
  have fx2 := row_c (i := 2) Rx_3.out rfl
  have zx2 := frozen_of_row _ _ 2 _ _ Rx_3.out
  have xx := heap_lt Rx_3.out
  go_wp2_with fail
  refine (odd_d (L3.out.get (A := A) (c := c) (xs := digs m.natAbs) (by simp)) (Nat.le_trans lx.out (by omega)) (t32_live HT.out L3.out) z0 z1 HM.out HE2.out).mono ?_
  rintro e w6 ⟨A6, c6, rfl, hd, hb⟩
  have L6 := Lib.hid ((L3.out.step hb).add hd)
  clear fx0 zx0 fx1 zx1 fx2 zx2 xx
  have Rx_6 := Lib.hid (cells_of Rx_3.out hb)
  have Rr_6 := Lib.hid (cells_of Rr_3.out hb)
  have Rsl_6 := Lib.hid (cells_of Rsl_3.out hb)
  have Rk_6 := Lib.hid (cells_of Rk_3.out hb)
  clear hb hd
  go_wp2_with fail
  refine (answer_d (row_c Rk_6.out (i := 0) rfl) (heap_lt Rk_6.out) (L6.out.get (A := A6) (c := c6) (xs := digs M.natAbs) (by simp)) (Nat.le_trans LM.out (by omega)) HQ.out).mono ?_
  rintro e w7 ⟨A7, c7, rfl, hd, hb⟩
  have L7 := Lib.hid ((L6.out.step hb).add hd)
  have Rx_7 := Lib.hid (cells_of Rx_6.out hb)
  have Rr_7 := Lib.hid (cells_of Rr_6.out hb)
  have Rsl_7 := Lib.hid (cells_of Rsl_6.out hb)
  have Rk_7 := Lib.hid (cells_of Rk_6.out hb)
  clear hb hd
  have fr0 := row_c (i := 0) Rr_7.out rfl
  have zr0 := frozen_of_row _ _ 0 _ _ Rr_7.out
  have fr1 := row_c (i := 1) Rr_7.out rfl
  have zr1 := frozen_of_row _ _ 1 _ _ Rr_7.out
  have fr2 := row_c (i := 2) Rr_7.out rfl
  have zr2 := frozen_of_row _ _ 2 _ _ Rr_7.out
  have xr := heap_lt Rr_7.out
  go_wp2
  refine bodyPost_ret (v := .tuple #[.agg #[.bool (decide (M < 0)), .slice A7 (digs M.natAbs).length c7, .int .i64 E], .int .i64 0]) (by simp [results, Tryd.results38, go_sem, fr0, fr1, fr2]) rfl ?_
  
  refine ⟨A7, c7, rfl, ?_, ?_⟩
  · exact (fin3 L7.out Rr_7.out noint3 Gr).get (A := A7) (c := c7) (xs := digs M.natAbs) (by simp)
  · exact (fin3 L7.out Rr_7.out noint3 Gr).1

set_option maxHeartbeats 4000000 in
set_option maxRecDepth 100000 in
theorem size_yes (A : Option Addr) (c : Nat) (m x : Int) (w : World) (h : Dg w A c (digs m.natAbs)) (hl : (digs m.natAbs).length ≤ 10000) (r1 : Rt m x) (m0 : m ≠ 0) {k : Int} (hk : x + bl m = k):
    Calls Tryd.prog 26 #[.agg #[.bool (decide (m < 0)), .slice A (digs m.natAbs).length c, .int .i64 x]] w fun e w' => e = .returned (.tuple #[.int .i64 k, .bool true]) ∧ Below w.heap.size w w' := by
  have lx := Lib.hid hl
  have x0 := r1.2.1
  have x1 := r1.2.2
  have D1 := Lib.hid (show decide (m = 0) = false by simp [m0])
  have DR := Lib.hid (fun W hW => dright_any A c (decide (m < 0)) (digs m.natAbs) x W hW true (dyR_num r1) (by omega))
  have b1 := bl_bd hl
  unfold bl at hk
  obtain ⟨z, hz⟩ : ∃ z : Int, (blen m.natAbs : Int) = z := ⟨_, rfl⟩
  have HZ := Lib.hid hz
  rw [hz] at hk
  have ws : IntKind.i64.wrap (x + z) = k := by rw [IntWalk.i64_in _ (by omega)]; exact hk
  have L0 := Lib.hid ((live_start w).add h)
  clear h hl r1 m0 hz hk b1
  go_enter Tryd.func26, Tryd.ntmps26
  go_wp2_with fail
  obtain ⟨v1, hW⟩ : ∃ W : World, W = (w.alloc (.cells #[.bool (decide (m < 0)), .slice A (digs m.natAbs).length c, .int .i64 x] 26)) := ⟨_, rfl⟩
  rw [← hW]
  have hb : Below w.heap.size w v1 := by rw [hW]; exact ((Below.refl _ _).alloc (by simp <;> omega) _)
  have L1 := Lib.hid (L0.out.step hb)
  have Rx_1 := Lib.hid (show v1.heap[w.heap.size]? = some (.cells #[.bool (decide (m < 0)), .slice A (digs m.natAbs).length c, .int .i64 x] 26 (0, 0)) by rw [hW]; have := heap_alloc_new w (.cells #[.bool (decide (m < 0)), .slice A (digs m.natAbs).length c, .int .i64 x] 26); simpa using this)
  have Gx : w.heap.size ≤ w.heap.size := by have := L0.out.1.size; omega
  clear hW hb
  refine (isz_d (x := x) D1.out).mono ?_
  rintro e w2 ⟨rfl, hb⟩
  have L2 := Lib.hid (L1.out.step hb)
  have Rx_2 := Lib.hid (cells_of Rx_1.out hb)
  clear hb 
  have fx0 := row_c (i := 0) Rx_2.out rfl
  have zx0 := frozen_of_row _ _ 0 _ _ Rx_2.out
  have fx1 := row_c (i := 1) Rx_2.out rfl
  have zx1 := frozen_of_row _ _ 1 _ _ Rx_2.out
  have fx2 := row_c (i := 2) Rx_2.out rfl
  have zx2 := frozen_of_row _ _ 2 _ _ Rx_2.out
  have xx := heap_lt Rx_2.out
  go_wp2_with fail
  refine (DR.out _ (L2.out.get (A := A) (c := c) (xs := digs m.natAbs) (by simp))).mono ?_
  rintro e w3 ⟨rfl, hb⟩
  have L3 := Lib.hid (L2.out.step hb)
  clear fx0 zx0 fx1 zx1 fx2 zx2 xx
  have Rx_3 := Lib.hid (cells_of Rx_2.out hb)
  clear hb 
  have fx0 := row_c (i := 0) Rx_3.out rfl
  have zx0 := frozen_of_row _ _ 0 _ _ Rx_3.out
  have fx1 := row_c (i := 1) Rx_3.out rfl
  have zx1 := frozen_of_row _ _ 1 _ _ Rx_3.out
  have fx2 := row_c (i := 2) Rx_3.out rfl
  have zx2 := frozen_of_row _ _ 2 _ _ Rx_3.out
  have xx := heap_lt Rx_3.out
  go_wp2_with fail
  clear fx0 zx0 fx1 zx1 fx2 zx2 xx
  have fx0 := row_c (i := 0) Rx_3.out rfl
  have zx0 := frozen_of_row _ _ 0 _ _ Rx_3.out
  have fx1 := row_c (i := 1) Rx_3.out rfl
  have zx1 := frozen_of_row _ _ 1 _ _ Rx_3.out
  have fx2 := row_c (i := 2) Rx_3.out rfl
  have zx2 := frozen_of_row _ _ 2 _ _ Rx_3.out
  have xx := heap_lt Rx_3.out
  have KD := Lib.hid (bd0 w3)
  have LD := Lib.hid (L3.out.step KD.out)
  go_region_held3 (fun w' => ∀ b o, b < w3.heap.size → w'.cell? ⟨b, o, none⟩ = w3.cell? ⟨b, o, none⟩)
    (first | with_reducible exact (bcell KD.out).1)
    (first
      | (go_at_call 64; (with_reducible refine (bits_b (LD.out.get (A := A) (c := c) (xs := digs m.natAbs) (by simp)) (Nat.le_trans lx.out (by omega)) HZ.out).mono ?_); rintro e w5 ⟨rfl, rfl⟩))
  rename_i hHeld
  clear hHeld
  clear fx0 zx0 fx1 zx1 fx2 zx2 xx
  clear KD LD
  obtain ⟨w6, hW⟩ : ∃ W : World, W = w3.drew := ⟨_, rfl⟩
  rw [← hW]
  have hb : Below w3.heap.size w3 w6 := by rw [hW]; exact bd0 _
  have L6 := Lib.hid (L3.out.step hb)
  have Rx_6 := Lib.hid (cells_of Rx_3.out hb)
  clear hW hb
  clear ws
  go_wp2
  go_ret2
  exact ⟨rfl, L6.out.1⟩
end Go.Proofs.YtnfafgpnnpapdaaDoor
end
