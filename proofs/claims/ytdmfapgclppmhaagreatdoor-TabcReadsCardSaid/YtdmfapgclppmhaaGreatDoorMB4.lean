import Derived.Test.YtdmfapgclppmhaaGreatDoorMB3
import Derived.Test.YtdmfapgclppmhaaGreatDoorMB2
import Derived.Test.YtdmfapgclppmhaaGreatDoorMB1
set_option maxHeartbeats 16000000
set_option maxRecDepth 100000
section
namespace Go.Proofs.YtdmfapgclppmhaaGreatDoor
open Go.RowKit
def tot (M E : Int) : Int × Int × Int := if inR M E then (M, E, 0) else (0, 0, 4)
theorem answer_t {g : Nat} {A : Option Addr} {c : Nat} {M E K F t : Int} {w : World} (hR : w.heap[g]? = some (.cells #[.int .i64 0] 103 (0, 0))) (h : Dg w A c (digs M.natAbs)) (hl : (digs M.natAbs).length ≤ 1000000) (hq : tot M E = (K, F, t)) :
    Calls Tryz.prog 78 #[.pointer (some ⟨g, 0, none⟩), .agg #[.bool (decide (M < 0)), .slice A (digs M.natAbs).length c, .int .i64 E]] w fun e w' => ∃ A c, e = .returned (.tuple #[.agg #[.bool (decide (K < 0)), .slice A (digs K.natAbs).length c, .int .i64 F], .int .i64 t]) ∧ Dg w' A c (digs K.natAbs) ∧ Below g w w' := by
  unfold tot at hq
  by_cases hi : inR M E = true
  · rw [if_pos hi] at hq
    obtain ⟨rfl, rfl, rfl⟩ : M = K ∧ E = F ∧ 0 = t := by simpa using hq
    refine (answer_d (row_c (i := 0) hR rfl) (heap_lt hR) h hl hi).mono ?_
    rintro e w' ⟨A, c, rfl, hd, hb⟩
    exact ⟨A, c, rfl, hd, hb.mono (Nat.le_of_lt (heap_lt hR))⟩
  · rw [if_neg hi] at hq
    obtain ⟨rfl, rfl, rfl⟩ : 0 = K ∧ 0 = F ∧ 4 = t := by simpa using hq
    refine (answer_no g A c (decide (M < 0)) M E w hR h hl (by simpa using hi)).mono ?_
    rintro e w' ⟨rfl, hb⟩
    have e0 : digs (0 : Int).natAbs = [] := digs_zero
    exact ⟨none, 0, by rw [e0]; rfl, by rw [e0]; exact Dg.nil_ _ _, hb⟩
theorem live_upto {w v w' : World} {g : Nat} {A : Option Addr} {c : Nat} {xs : List Nat} (hL : Below w.heap.size w v) (hb : Below g v w') (hg : w.heap.size ≤ g) (hd : Dg w' A c xs) : Live w w' [(A, c, xs)] :=
  ⟨hL.trans (hb.mono hg), fun t ht => by simp at ht; subst ht; exact hd⟩
theorem tot_len {M E K F t : Int} (h : tot M E = (K, F, t)) (hn : Nf M E) : (digs K.natAbs).length ≤ 10000 ∧ Nf K F := by
  unfold tot at h
  by_cases hi : inR M E = true
  · rw [if_pos hi] at h
    obtain ⟨rfl, rfl, rfl⟩ : M = K ∧ E = F ∧ 0 = t := by simpa using h
    exact ⟨inr_len hi, hn⟩
  · rw [if_neg hi] at h
    obtain ⟨rfl, rfl, rfl⟩ : 0 = K ∧ 0 = F ∧ 4 = t := by simpa using h
    exact ⟨by rw [show digs (0 : Int).natAbs = [] from digs_zero]; simp, .inl ⟨rfl, rfl⟩⟩
theorem tadd_z_ (A B : Option Addr) (c d : Nat) (m n x y : Int) (M E : Int) (w : World) (h : Dg w A c (digs m.natAbs)) (h' : Dg w B d (digs n.natAbs)) (hl : (digs m.natAbs).length ≤ 10000) (hl' : (digs n.natAbs).length ≤ 10000) (r1 : Rt m x) (r2 : Rt n y) (hT : T32 w) (hs : IsD (dv m x + dv n y) M E) (hlm : (digs M.natAbs).length ≤ 900000) {K F V : Int} (hq : tot M E = (K, F, V)) (m0 : m = 0):
    Calls Tryz.prog 43 #[.agg #[.bool (decide (m < 0)), .slice A (digs m.natAbs).length c, .int .i64 x], .agg #[.bool (decide (n < 0)), .slice B (digs n.natAbs).length d, .int .i64 y]] w fun e w' => Ye K F V w e w' := by
  have HR1 := qH r1
  have HR2 := qH r2
  have lx := qH hl
  have ly := qH hl'
  have HQ := qH hq
  have x0 := r1.2.1
  have x1 := r1.2.2
  have y0 := r2.2.1
  have y1 := r2.2.2
  have LM := qH hlm
  have d1 : decide (m = 0) = true := by simp [m0]
  have hu := IsD.uniq (show IsD (dv m x + dv n y) n y from ⟨r2.1, by rw [m0, dv_zero, Rat.zero_add]⟩) hs
  obtain ⟨rfl, rfl⟩ := hu
  have D1 := qH d1
  have HT := qH hT
  clear hT
  have L0 := qH (((live_start w).add h).add h')
  clear h h' hl hl' r1 r2 hs hq d1 m0
  go_enter Tryz.func43, Tryz.ntmps43
  go_wp2_with fail
  obtain ⟨v1, hW, hb, Rx_1, Ry_1, Rr_1, Rsl_1⟩ := new4 w (.cells #[.bool (decide (m < 0)), .slice A (digs m.natAbs).length c, .int .i64 x] 26) (.cells #[.bool (decide (n < 0)), .slice B (digs n.natAbs).length d, .int .i64 y] 26) (.cells #[.bool false, .slice none 0 0, .int .i64 0] 26) (.cells #[.bool (decide (m < 0)), .slice A (digs m.natAbs).length c, .int .i64 x, .bool (decide (n < 0)), .slice B (digs n.natAbs).length d, .int .i64 y] 26)
  rw [← hW]
  have L1 := ls L0 hb
  have Gx := gl0 L0.out
  have Gy := gl1 L0.out
  have Nxy : w.heap.size < w.heap.size + 1 := by omega
  have Gr := gl2 L0.out
  have Nxr : w.heap.size < w.heap.size + 1 + 1 := by omega
  have Nyr : w.heap.size + 1 < w.heap.size + 1 + 1 := by omega
  have Gsl := gl3 L0.out
  have Nxsl : w.heap.size < w.heap.size + 1 + 1 + 1 := by omega
  have Nysl : w.heap.size + 1 < w.heap.size + 1 + 1 + 1 := by omega
  have Nrsl : w.heap.size + 1 + 1 < w.heap.size + 1 + 1 + 1 := by omega
  clear hW hb
  refine (begin_2 Rsl_1.out (L1.out.get (A := A) (c := c) (xs := digs m.natAbs) (by simp)) (L1.out.get (A := B) (c := d) (xs := digs n.natAbs) (by simp)) (dyR_num HR1.out) (dyR_num HR2.out) (Nat.le_trans lx.out (by omega)) (Nat.le_trans ly.out (by omega)) (k := 0) rfl).mono ?_
  rintro e w2 ⟨rfl, hb⟩
  have L2 := ls L1 hb
  have Rx_2 := co Rx_1 hb
  have Ry_2 := co Ry_1 hb
  have Rr_2 := co Rr_1 hb
  have Rsl_2 := co Rsl_1 hb
  clear hb 
  go_wp2_with fail
  obtain ⟨w3, hW, hb, Rk_3⟩ := new1 w2 (.cells #[.int .i64 0] 103)
  rw [← hW]
  have L3 := ls L2 hb
  have Rx_3 := co Rx_2 hb
  have Ry_3 := co Ry_2 hb
  have Rr_3 := co Rr_2 hb
  have Rsl_3 := co Rsl_2 hb
  have Gk := gl0 L2.out
  have Nxk := nl0 Rx_2.out
  have Nyk := nl0 Ry_2.out
  have Nrk := nl0 Rr_2.out
  have Nslk := nl0 Rsl_2.out
  clear hW hb
  refine (fails_any _ 0 false _ (row_c Rk_3.out (i := 0) rfl) rfl).mono ?_
  rintro e w4 ⟨rfl, rfl⟩
  obtain ⟨fx0, zx0, fx1, zx1, fx2, zx2, xx⟩ := ly3 Rx_3.out
  go_wp2_with fail
  refine (isz_d (x := x) D1.out).mono ?_
  rintro e w5 ⟨rfl, hb⟩
  have L5 := ls L3 hb
  clear fx0 zx0 fx1 zx1 fx2 zx2 xx
  have Rx_5 := co Rx_3 hb
  have Ry_5 := co Ry_3 hb
  have Rr_5 := co Rr_3 hb
  have Rsl_5 := co Rsl_3 hb
  have Rk_5 := co Rk_3 hb
  clear hb 
  obtain ⟨fy0, zy0, fy1, zy1, fy2, zy2, xy⟩ := ly3 Ry_5.out
  go_wp2_with fail
  refine (answer_t Rk_5.out (L5.out.get (A := B) (c := d) (xs := digs n.natAbs) (by simp)) (Nat.le_trans LM.out (by omega)) HQ.out).mono ?_
  rintro e wz ⟨Az, cz, rfl, hd, hb⟩
  clear fy0 zy0 fy1 zy1 fy2 zy2 xy
  have Rr_z := qH ((hb.block (w.heap.size + 1 + 1) (by omega)).trans Rr_5.out)
  have Lz := qH (live_upto L5.out.1 hb Gk hd)
  clear hd hb
  obtain ⟨fr0, zr0, fr1, zr1, fr2, zr2, xr⟩ := ly3 Rr_z.out
  go_wp2
  refine bodyPost_ret (v := .tuple #[.agg #[.bool (decide (K < 0)), .slice Az (digs K.natAbs).length cz, .int .i64 F], .int .i64 V]) (by simp [results, Tryz.results43, go_sem, fr0, fr1, fr2]) rfl ?_
  refine ⟨Az, cz, rfl, ?_, ?_⟩
  · exact (fin3 Lz.out Rr_z.out noint3 Gr).get (A := Az) (c := cz) (xs := digs K.natAbs) (by simp)
  · exact (fin3 Lz.out Rr_z.out noint3 Gr).1
theorem tadd_y_ (A B : Option Addr) (c d : Nat) (m n x y : Int) (M E : Int) (w : World) (h : Dg w A c (digs m.natAbs)) (h' : Dg w B d (digs n.natAbs)) (hl : (digs m.natAbs).length ≤ 10000) (hl' : (digs n.natAbs).length ≤ 10000) (r1 : Rt m x) (r2 : Rt n y) (hT : T32 w) (hs : IsD (dv m x + dv n y) M E) (hlm : (digs M.natAbs).length ≤ 900000) {K F V : Int} (hq : tot M E = (K, F, V)) (m0 : m ≠ 0) (n0 : n = 0):
    Calls Tryz.prog 43 #[.agg #[.bool (decide (m < 0)), .slice A (digs m.natAbs).length c, .int .i64 x], .agg #[.bool (decide (n < 0)), .slice B (digs n.natAbs).length d, .int .i64 y]] w fun e w' => Ye K F V w e w' := by
  have HR1 := qH r1
  have HR2 := qH r2
  have lx := qH hl
  have ly := qH hl'
  have HQ := qH hq
  have x0 := r1.2.1
  have x1 := r1.2.2
  have y0 := r2.2.1
  have y1 := r2.2.2
  have LM := qH hlm
  have d1 : decide (m = 0) = false := by simp [m0]
  have d2 : decide (n = 0) = true := by simp [n0]
  have hu := IsD.uniq (show IsD (dv m x + dv n y) m x from ⟨r1.1, by rw [n0, dv_zero, Rat.add_zero]⟩) hs
  obtain ⟨rfl, rfl⟩ := hu
  have D1 := qH d1
  have D2 := qH d2
  have HT := qH hT
  clear hT
  have L0 := qH (((live_start w).add h).add h')
  clear h h' hl hl' r1 r2 hs hq d1 m0 d2 n0
  go_enter Tryz.func43, Tryz.ntmps43
  go_wp2_with fail
  obtain ⟨v1, hW, hb, Rx_1, Ry_1, Rr_1, Rsl_1⟩ := new4 w (.cells #[.bool (decide (m < 0)), .slice A (digs m.natAbs).length c, .int .i64 x] 26) (.cells #[.bool (decide (n < 0)), .slice B (digs n.natAbs).length d, .int .i64 y] 26) (.cells #[.bool false, .slice none 0 0, .int .i64 0] 26) (.cells #[.bool (decide (m < 0)), .slice A (digs m.natAbs).length c, .int .i64 x, .bool (decide (n < 0)), .slice B (digs n.natAbs).length d, .int .i64 y] 26)
  rw [← hW]
  have L1 := ls L0 hb
  have Gx := gl0 L0.out
  have Gy := gl1 L0.out
  have Nxy : w.heap.size < w.heap.size + 1 := by omega
  have Gr := gl2 L0.out
  have Nxr : w.heap.size < w.heap.size + 1 + 1 := by omega
  have Nyr : w.heap.size + 1 < w.heap.size + 1 + 1 := by omega
  have Gsl := gl3 L0.out
  have Nxsl : w.heap.size < w.heap.size + 1 + 1 + 1 := by omega
  have Nysl : w.heap.size + 1 < w.heap.size + 1 + 1 + 1 := by omega
  have Nrsl : w.heap.size + 1 + 1 < w.heap.size + 1 + 1 + 1 := by omega
  clear hW hb
  refine (begin_2 Rsl_1.out (L1.out.get (A := A) (c := c) (xs := digs m.natAbs) (by simp)) (L1.out.get (A := B) (c := d) (xs := digs n.natAbs) (by simp)) (dyR_num HR1.out) (dyR_num HR2.out) (Nat.le_trans lx.out (by omega)) (Nat.le_trans ly.out (by omega)) (k := 0) rfl).mono ?_
  rintro e w2 ⟨rfl, hb⟩
  have L2 := ls L1 hb
  have Rx_2 := co Rx_1 hb
  have Ry_2 := co Ry_1 hb
  have Rr_2 := co Rr_1 hb
  have Rsl_2 := co Rsl_1 hb
  clear hb 
  go_wp2_with fail
  obtain ⟨w3, hW, hb, Rk_3⟩ := new1 w2 (.cells #[.int .i64 0] 103)
  rw [← hW]
  have L3 := ls L2 hb
  have Rx_3 := co Rx_2 hb
  have Ry_3 := co Ry_2 hb
  have Rr_3 := co Rr_2 hb
  have Rsl_3 := co Rsl_2 hb
  have Gk := gl0 L2.out
  have Nxk := nl0 Rx_2.out
  have Nyk := nl0 Ry_2.out
  have Nrk := nl0 Rr_2.out
  have Nslk := nl0 Rsl_2.out
  clear hW hb
  refine (fails_any _ 0 false _ (row_c Rk_3.out (i := 0) rfl) rfl).mono ?_
  rintro e w4 ⟨rfl, rfl⟩
  obtain ⟨fx0, zx0, fx1, zx1, fx2, zx2, xx⟩ := ly3 Rx_3.out
  go_wp2_with fail
  refine (isz_d (x := x) D1.out).mono ?_
  rintro e w5 ⟨rfl, hb⟩
  have L5 := ls L3 hb
  clear fx0 zx0 fx1 zx1 fx2 zx2 xx
  have Rx_5 := co Rx_3 hb
  have Ry_5 := co Ry_3 hb
  have Rr_5 := co Rr_3 hb
  have Rsl_5 := co Rsl_3 hb
  have Rk_5 := co Rk_3 hb
  clear hb 
  obtain ⟨fy0, zy0, fy1, zy1, fy2, zy2, xy⟩ := ly3 Ry_5.out
  go_wp2_with fail
  refine (isz_d (x := y) D2.out).mono ?_
  rintro e w6 ⟨rfl, hb⟩
  have L6 := ls L5 hb
  clear fy0 zy0 fy1 zy1 fy2 zy2 xy
  have Rx_6 := co Rx_5 hb
  have Ry_6 := co Ry_5 hb
  have Rr_6 := co Rr_5 hb
  have Rsl_6 := co Rsl_5 hb
  have Rk_6 := co Rk_5 hb
  clear hb 
  obtain ⟨fx0, zx0, fx1, zx1, fx2, zx2, xx⟩ := ly3 Rx_6.out
  go_wp2_with fail
  refine (answer_t Rk_6.out (L6.out.get (A := A) (c := c) (xs := digs m.natAbs) (by simp)) (Nat.le_trans LM.out (by omega)) HQ.out).mono ?_
  rintro e wz ⟨Az, cz, rfl, hd, hb⟩
  clear fx0 zx0 fx1 zx1 fx2 zx2 xx
  have Rr_z := qH ((hb.block (w.heap.size + 1 + 1) (by omega)).trans Rr_6.out)
  have Lz := qH (live_upto L6.out.1 hb Gk hd)
  clear hd hb
  obtain ⟨fr0, zr0, fr1, zr1, fr2, zr2, xr⟩ := ly3 Rr_z.out
  go_wp2
  refine bodyPost_ret (v := .tuple #[.agg #[.bool (decide (K < 0)), .slice Az (digs K.natAbs).length cz, .int .i64 F], .int .i64 V]) (by simp [results, Tryz.results43, go_sem, fr0, fr1, fr2]) rfl ?_
  refine ⟨Az, cz, rfl, ?_, ?_⟩
  · exact (fin3 Lz.out Rr_z.out noint3 Gr).get (A := Az) (c := cz) (xs := digs K.natAbs) (by simp)
  · exact (fin3 Lz.out Rr_z.out noint3 Gr).1
theorem tadd_b_ (A B : Option Addr) (c d : Nat) (m n x y : Int) (M E : Int) (w : World) (h : Dg w A c (digs m.natAbs)) (h' : Dg w B d (digs n.natAbs)) (hl : (digs m.natAbs).length ≤ 10000) (hl' : (digs n.natAbs).length ≤ 10000) (r1 : Rt m x) (r2 : Rt n y) (hT : T32 w) (hs : IsD (dv m x + dv n y) M E) (hlm : (digs M.natAbs).length ≤ 900000) {K F V : Int} (hq : tot M E = (K, F, V)) (m0 : m ≠ 0) (n0 : n ≠ 0):
    Calls Tryz.prog 43 #[.agg #[.bool (decide (m < 0)), .slice A (digs m.natAbs).length c, .int .i64 x], .agg #[.bool (decide (n < 0)), .slice B (digs n.natAbs).length d, .int .i64 y]] w fun e w' => Ye K F V w e w' := by
  have HR1 := qH r1
  have HR2 := qH r2
  have lx := qH hl
  have ly := qH hl'
  have HQ := qH hq
  have x0 := r1.2.1
  have x1 := r1.2.2
  have y0 := r2.2.1
  have y1 := r2.2.2
  have LM := qH hlm
  have d1 : decide (m = 0) = false := by simp [m0]
  have d2 : decide (n = 0) = false := by simp [n0]
  obtain ⟨e0, he0⟩ : ∃ e, min x y = e := ⟨_, rfl⟩
  have ez := sum_upto m x n y
  rw [he0] at ez
  have lp := upto_len2 (m := m) (x := x) (e0 := e0) hl (by omega)
  have lq := upto_len2 (m := n) (x := y) (e0 := e0) hl' (by omega)
  have hu := IsD.of (m := upto m x e0 + upto n y e0) (e := e0) (M := M) (E := E) (by rw [ez]; exact hs)
  obtain ⟨p, hp⟩ : ∃ e, upto m x e0 = e := ⟨_, rfl⟩
  obtain ⟨q, hq2⟩ : ∃ e, upto n y e0 = e := ⟨_, rfl⟩
  rw [hp] at lp hu
  rw [hq2] at lq hu
  obtain ⟨z, hz⟩ : ∃ z, p + q = z := ⟨_, rfl⟩
  have lz : (digs z.natAbs).length ≤ 20001 := by
    rw [← hz]
    have h1 := digs_len_mono _ _ (by omega : (p + q).natAbs ≤ p.natAbs + q.natAbs)
    have h2 := digs_add_len p.natAbs q.natAbs
    omega
  rw [hz] at hu
  have HM := qH hu.1
  have HE := qH hu.2
  have HP := qH hp
  have HQ2 := qH hq2
  have HE0 := qH he0
  have HZ := qH hz
  have LP := qH lp
  have LQ := qH lq
  have LZ := qH lz
  have z0 : -1000000000 ≤ e0 := by omega
  have z1 : e0 ≤ 1000000000 := by omega
  have D1 := qH d1
  have D2 := qH d2
  have HT := qH hT
  clear hT
  have L0 := qH (((live_start w).add h).add h')
  clear h h' hl hl' r1 r2 hs hq d1 m0 d2 n0 hu hp hq2 lp lq lz he0 hz ez
  go_enter Tryz.func43, Tryz.ntmps43
  go_wp2_with fail
  obtain ⟨v1, hW, hb, Rx_1, Ry_1, Rr_1, Rsl_1⟩ := new4 w (.cells #[.bool (decide (m < 0)), .slice A (digs m.natAbs).length c, .int .i64 x] 26) (.cells #[.bool (decide (n < 0)), .slice B (digs n.natAbs).length d, .int .i64 y] 26) (.cells #[.bool false, .slice none 0 0, .int .i64 0] 26) (.cells #[.bool (decide (m < 0)), .slice A (digs m.natAbs).length c, .int .i64 x, .bool (decide (n < 0)), .slice B (digs n.natAbs).length d, .int .i64 y] 26)
  rw [← hW]
  have L1 := ls L0 hb
  have Gx := gl0 L0.out
  have Gy := gl1 L0.out
  have Nxy : w.heap.size < w.heap.size + 1 := by omega
  have Gr := gl2 L0.out
  have Nxr : w.heap.size < w.heap.size + 1 + 1 := by omega
  have Nyr : w.heap.size + 1 < w.heap.size + 1 + 1 := by omega
  have Gsl := gl3 L0.out
  have Nxsl : w.heap.size < w.heap.size + 1 + 1 + 1 := by omega
  have Nysl : w.heap.size + 1 < w.heap.size + 1 + 1 + 1 := by omega
  have Nrsl : w.heap.size + 1 + 1 < w.heap.size + 1 + 1 + 1 := by omega
  clear hW hb
  refine (begin_2 Rsl_1.out (L1.out.get (A := A) (c := c) (xs := digs m.natAbs) (by simp)) (L1.out.get (A := B) (c := d) (xs := digs n.natAbs) (by simp)) (dyR_num HR1.out) (dyR_num HR2.out) (Nat.le_trans lx.out (by omega)) (Nat.le_trans ly.out (by omega)) (k := 0) rfl).mono ?_
  rintro e w2 ⟨rfl, hb⟩
  have L2 := ls L1 hb
  have Rx_2 := co Rx_1 hb
  have Ry_2 := co Ry_1 hb
  have Rr_2 := co Rr_1 hb
  have Rsl_2 := co Rsl_1 hb
  clear hb 
  go_wp2_with fail
  obtain ⟨w3, hW, hb, Rk_3⟩ := new1 w2 (.cells #[.int .i64 0] 103)
  rw [← hW]
  have L3 := ls L2 hb
  have Rx_3 := co Rx_2 hb
  have Ry_3 := co Ry_2 hb
  have Rr_3 := co Rr_2 hb
  have Rsl_3 := co Rsl_2 hb
  have Gk := gl0 L2.out
  have Nxk := nl0 Rx_2.out
  have Nyk := nl0 Ry_2.out
  have Nrk := nl0 Rr_2.out
  have Nslk := nl0 Rsl_2.out
  clear hW hb
  refine (fails_any _ 0 false _ (row_c Rk_3.out (i := 0) rfl) rfl).mono ?_
  rintro e w4 ⟨rfl, rfl⟩
  obtain ⟨fx0, zx0, fx1, zx1, fx2, zx2, xx⟩ := ly3 Rx_3.out
  go_wp2_with fail
  refine (isz_d (x := x) D1.out).mono ?_
  rintro e w5 ⟨rfl, hb⟩
  have L5 := ls L3 hb
  clear fx0 zx0 fx1 zx1 fx2 zx2 xx
  have Rx_5 := co Rx_3 hb
  have Ry_5 := co Ry_3 hb
  have Rr_5 := co Rr_3 hb
  have Rsl_5 := co Rsl_3 hb
  have Rk_5 := co Rk_3 hb
  clear hb 
  obtain ⟨fy0, zy0, fy1, zy1, fy2, zy2, xy⟩ := ly3 Ry_5.out
  go_wp2_with fail
  refine (isz_d (x := y) D2.out).mono ?_
  rintro e w6 ⟨rfl, hb⟩
  have L6 := ls L5 hb
  clear fy0 zy0 fy1 zy1 fy2 zy2 xy
  have Rx_6 := co Rx_5 hb
  have Ry_6 := co Ry_5 hb
  have Rr_6 := co Rr_5 hb
  have Rsl_6 := co Rsl_5 hb
  have Rk_6 := co Rk_5 hb
  clear hb 
  obtain ⟨fx0, zx0, fx1, zx1, fx2, zx2, xx⟩ := ly3 Rx_6.out
  obtain ⟨fy0, zy0, fy1, zy1, fy2, zy2, xy⟩ := ly3 Ry_6.out
  go_wp2_with fail
  refine (beside_any (p := p) (q := q) (e0 := e0) (L6.out.get (A := A) (c := c) (xs := digs m.natAbs) (by simp)) (L6.out.get (A := B) (c := d) (xs := digs n.natAbs) (by simp)) (Nat.le_trans lx.out (by omega)) (Nat.le_trans ly.out (by omega)) x0 x1 y0 y1 HE0.out HP.out HQ2.out).mono ?_
  rintro e w7 ⟨A7, c7, B7, d7, rfl, hd, hd', hb⟩
  have L7 := qH (((L6.out.step hb).add hd).add hd')
  clear fx0 zx0 fx1 zx1 fx2 zx2 xx fy0 zy0 fy1 zy1 fy2 zy2 xy
  have Rx_7 := co Rx_6 hb
  have Ry_7 := co Ry_6 hb
  have Rr_7 := co Rr_6 hb
  have Rsl_7 := co Rsl_6 hb
  have Rk_7 := co Rk_6 hb
  clear hb hd hd'
  go_wp2_with fail
  obtain ⟨w8, hW, hb, Ra_8, Rb_8⟩ := new2 w7 (.cells #[.bool (decide (p < 0)), .slice A7 (digs p.natAbs).length c7] 24) (.cells #[.bool (decide (q < 0)), .slice B7 (digs q.natAbs).length d7] 24)
  rw [← hW]
  have L8 := ls L7 hb
  have Rx_8 := co Rx_7 hb
  have Ry_8 := co Ry_7 hb
  have Rr_8 := co Rr_7 hb
  have Rsl_8 := co Rsl_7 hb
  have Rk_8 := co Rk_7 hb
  have Ga := gl0 L7.out
  have Nxa := nl0 Rx_7.out
  have Nya := nl0 Ry_7.out
  have Nra := nl0 Rr_7.out
  have Nsla := nl0 Rsl_7.out
  have Nka := nl0 Rk_7.out
  have Gb := gl1 L7.out
  have Nxb := nl1 Rx_7.out
  have Nyb := nl1 Ry_7.out
  have Nrb := nl1 Rr_7.out
  have Nslb := nl1 Rsl_7.out
  have Nkb := nl1 Rk_7.out
  have Nab : w7.heap.size < w7.heap.size + 1 := by omega
  clear hW hb
  refine (zadd_d (L8.out.get (A := A7) (c := c7) (xs := digs p.natAbs) (by simp)) (L8.out.get (A := B7) (c := d7) (xs := digs q.natAbs) (by simp)) (Nat.le_trans LP.out (by omega)) (Nat.le_trans LQ.out (by omega)) HZ.out).mono ?_
  rintro e w9 ⟨A9, c9, rfl, hd, hb⟩
  have L9 := la L8 hb hd
  have Rx_9 := co Rx_8 hb
  have Ry_9 := co Ry_8 hb
  have Rr_9 := co Rr_8 hb
  have Rsl_9 := co Rsl_8 hb
  have Rk_9 := co Rk_8 hb
  have Ra_9 := co Ra_8 hb
  have Rb_9 := co Rb_8 hb
  clear hb hd
  go_wp2_with fail
  refine (odd_d (L9.out.get (A := A9) (c := c9) (xs := digs z.natAbs) (by simp)) (Nat.le_trans LZ.out (by omega)) (t32_live HT.out L9.out) z0 z1 HM.out HE.out).mono ?_
  rintro e w10 ⟨A10, c10, rfl, hd, hb⟩
  have L10 := la L9 hb hd
  have Rx_10 := co Rx_9 hb
  have Ry_10 := co Ry_9 hb
  have Rr_10 := co Rr_9 hb
  have Rsl_10 := co Rsl_9 hb
  have Rk_10 := co Rk_9 hb
  have Ra_10 := co Ra_9 hb
  have Rb_10 := co Rb_9 hb
  clear hb hd
  go_wp2_with fail
  refine (answer_t Rk_10.out (L10.out.get (A := A10) (c := c10) (xs := digs M.natAbs) (by simp)) (Nat.le_trans LM.out (by omega)) HQ.out).mono ?_
  rintro e wz ⟨Az, cz, rfl, hd, hb⟩
  have Rr_z := qH ((hb.block (w.heap.size + 1 + 1) (by omega)).trans Rr_10.out)
  have Lz := qH (live_upto L10.out.1 hb Gk hd)
  clear hd hb
  obtain ⟨fr0, zr0, fr1, zr1, fr2, zr2, xr⟩ := ly3 Rr_z.out
  go_wp2
  refine bodyPost_ret (v := .tuple #[.agg #[.bool (decide (K < 0)), .slice Az (digs K.natAbs).length cz, .int .i64 F], .int .i64 V]) (by simp [results, Tryz.results43, go_sem, fr0, fr1, fr2]) rfl ?_
  refine ⟨Az, cz, rfl, ?_, ?_⟩
  · exact (fin3 Lz.out Rr_z.out noint3 Gr).get (A := Az) (c := cz) (xs := digs K.natAbs) (by simp)
  · exact (fin3 Lz.out Rr_z.out noint3 Gr).1
theorem add_len {m n x y M E : Int} (hl : (digs m.natAbs).length ≤ 10000) (hl' : (digs n.natAbs).length ≤ 10000) (r1 : Rt m x) (r2 : Rt n y) (hs : IsD (dv m x + dv n y) M E) : (digs M.natAbs).length ≤ 900000 := by
  obtain ⟨e0, he0⟩ : ∃ e, min x y = e := ⟨_, rfl⟩
  have ez := sum_upto m x n y
  rw [he0] at ez
  have x0 := r1.2.1
  have x1 := r1.2.2
  have y0 := r2.2.1
  have y1 := r2.2.2
  have lp := upto_len2 (m := m) (x := x) (e0 := e0) hl (by omega)
  have lq := upto_len2 (m := n) (x := y) (e0 := e0) hl' (by omega)
  have hu := IsD.of (m := upto m x e0 + upto n y e0) (e := e0) (M := M) (E := E) (by rw [ez]; exact hs)
  rw [← hu.1]
  have h1 := digs_len_mono _ _ (by omega : (upto m x e0 + upto n y e0).natAbs ≤ (upto m x e0).natAbs + (upto n y e0).natAbs)
  have h2 := digs_add_len (upto m x e0).natAbs (upto n y e0).natAbs
  have h3 := nm_len (upto m x e0 + upto n y e0)
  omega
theorem tadd {A B : Option Addr} {c d : Nat} {m n x y M E K F V : Int} {w : World} (h : Dg w A c (digs m.natAbs)) (h' : Dg w B d (digs n.natAbs)) (hl : (digs m.natAbs).length ≤ 10000) (hl' : (digs n.natAbs).length ≤ 10000) (r1 : Rt m x) (r2 : Rt n y) (hT : T32 w) (hs : IsD (dv m x + dv n y) M E) (hq : tot M E = (K, F, V)) :
    Calls Tryz.prog 43 #[.agg #[.bool (decide (m < 0)), .slice A (digs m.natAbs).length c, .int .i64 x], .agg #[.bool (decide (n < 0)), .slice B (digs n.natAbs).length d, .int .i64 y]] w fun e w' => Ye K F V w e w' := by
  have hlm : (digs M.natAbs).length ≤ 900000 := add_len hl hl' r1 r2 hs
  by_cases m0 : m = 0
  · exact tadd_z_ A B c d m n x y M E w h h' hl hl' r1 r2 hT hs hlm hq m0
  · by_cases n0 : n = 0
    · exact tadd_y_ A B c d m n x y M E w h h' hl hl' r1 r2 hT hs hlm hq m0 n0
    · exact tadd_b_ A B c d m n x y M E w h h' hl hl' r1 r2 hT hs hlm hq m0 n0
theorem half_u (x u : Int) (w : World) (hT : T32 w) (h0 : -65537 ≤ x) (h1 : x ≤ 65535) (hu : u = 1):
    Calls Tryz.prog 44 #[.int .i64 x] w fun e w' => Yr u x w e w' := by
  have FR : ∀ W, Calls Tryz.prog 63 #[.int .i64 1] W fun e w' => Zr u W e w' := fun W => by subst hu; exact zfrom_any 1 W (by omega) (by omega)
  have FR := qH FR
  have LN := qH (show (digs u.natAbs).length ≤ 2 from digs_small (by omega))
  have hI : inR u x = true := by
    subst hu
    have e : bl 1 = 1 := by decide +kernel
    unfold inR
    rw [decide_eq_true_eq, e]
    right
    omega
  have MY := qH (fun W A c (hW : Dg W A c (digs u.natAbs)) hT => make_yes A c (decide (u < 0)) (digs u.natAbs) x u x W hW (Nat.le_trans LN.out (by omega)) hT (by omega) (by omega) (by rw [sg_dz, hu]; exact (nm_odd rfl).1) (by rw [sg_dz, hu]; exact (nm_odd rfl).2 x) hI)
  have HT := qH hT
  clear hT
  have L0 := qH (live_start w)
  clear hu h0 h1 hI
  go_enter Tryz.func44, Tryz.ntmps44
  go_wp2_with fail
  obtain ⟨v1, hW, hb, Rr_1⟩ := new1 w (.cells #[.bool false, .slice none 0 0, .int .i64 0] 26)
  rw [← hW]
  have L1 := ls L0 hb
  have Gr := gl0 L0.out
  clear hW hb
  refine (FR.out _).mono ?_
  rintro e w2 ⟨A2, c2, rfl, hd, hb⟩
  have L2 := la L1 hb hd
  have Rr_2 := co Rr_1 hb
  clear hb hd
  go_wp2_with fail
  refine (MY.out _ A2 c2 (L2.out.get (A := A2) (c := c2) (xs := digs u.natAbs) (by simp)) (t32_live HT.out L2.out)).mono ?_
  rintro e w3 ⟨A3, c3, rfl, hd, hb⟩
  have L3 := la L2 hb hd
  have Rr_3 := co Rr_2 hb
  clear hb hd
  obtain ⟨fr0, zr0, fr1, zr1, fr2, zr2, xr⟩ := ly3 Rr_3.out
  go_wp2
  have al : ∀ (V : World) (o : Obj) (i : Nat), w.heap.size < V.heap.size → (V.alloc o).cell? ⟨w.heap.size, i, none⟩ = V.cell? ⟨w.heap.size, i, none⟩ := fun V o i h => (below1 V o).cell (p := ⟨_, i, none⟩) h
  refine bodyPost_ret (v := .agg #[.bool (decide (u < 0)), .slice A3 (digs u.natAbs).length c3, .int .i64 x]) (by simp [results, Tryz.results44, go_sem, al, xr, fr0, fr1, fr2]) rfl ?_
  refine ⟨A3, c3, rfl, ?_, ?_⟩
  · exact ((fin3 L3.out Rr_3.out noint3 Gr).step (below1 _ _)).get (A := A3) (c := c3) (xs := digs u.natAbs) (by simp)
  · exact ((fin3 L3.out Rr_3.out noint3 Gr).step (below1 _ _)).1
def DyRowO (w : World) (b o n : Nat) (S : Nat → Bool) (A : Nat → Option Addr) (C : Nat → Nat) (X : Nat → List Nat) (E : Nat → Int) : Prop :=
  ∀ i, i < n → w.cell? ⟨b, o + i * 3, none⟩ = some (.bool (S i)) ∧ w.cell? ⟨b, o + i * 3 + 1, none⟩ = some (.slice (A i) (X i).length (C i)) ∧ w.cell? ⟨b, o + i * 3 + 2, none⟩ = some (.int .i64 (E i)) ∧ Dg w (A i) (C i) (X i)
def allB (R : Nat → Bool) : Nat → Bool
  | 0 => true
  | k + 1 => allB R k && R k
theorem allB_no {R : Nat → Bool} {k : Nat} (h : R k = false) : ∀ n, k < n → allB R n = false
  | 0, hn => by omega
  | n + 1, hn => by
    unfold allB
    by_cases e : k = n
    · subst e; rw [h, Bool.and_false]
    · rw [allB_no h n (by omega), Bool.false_and]
theorem shortN_any (b o n c : Nat) (S : Nat → Bool) (A : Nat → Option Addr) (C : Nat → Nat) (X : Nat → List Nat) (E : Nat → Int) (R : Nat → Bool) (w : World) (hb : b < w.heap.size) (hrow : DyRowO w b o n S A C X E) (hR : ∀ i, i < n → mayB (S i) (X i) (E i) = R i) (hX : ∀ i, i < n → (X i).length ≤ 10000) (hn : n ≤ 1000000) (hc : n ≤ c) :
    Calls Tryz.prog 55 #[.slice (some ⟨b, o, none⟩) n c] w fun e w' => e = .returned (.bool (allB R n)) ∧ Below w.heap.size w w' := by
  have H := qH hrow
  have HR := qH hR
  have HX := qH hX
  have HC := qH hc
  clear hrow hR hX hc
  go_enter Tryz.func55, Tryz.ntmps55
  go_wp2
  go_loopw [7] (fun i wr => ∃ k : Nat, k ≤ n ∧ i = .int .i64 k ∧ Hid (allB R k = true) ∧ Hid (Below w.heap.size w wr)) (fun i _ => n - (intOf i).toNat)
  case atStart => exact ⟨0, Nat.zero_le _, rfl, qH rfl, qH (Below.refl _ _)⟩
  case round =>
    obtain ⟨k, hk, rfl, HA, HB⟩ := hrel
    by_cases hlt : k < n
    · obtain ⟨c0, c1, c2, hd⟩ := H.out k hlt
      have g0 := (HB.out.cell (p := ⟨b, o + k * 3, none⟩) hb).trans c0
      have g1 := (HB.out.cell (p := ⟨b, o + k * 3 + 1, none⟩) hb).trans c1
      have g2 := (HB.out.cell (p := ⟨b, o + k * 3 + 2, none⟩) hb).trans c2
      have HD := qH (hd.below HB.out)
      clear c0 c1 c2 hd
      go_wp2_with fail
      refine (may_any (q := R k) (HD.out.below (below1 wr (.cells #[.bool (S k), .slice (A k) (X k).length (C k), .int .i64 (E k)] 26))) (HX.out k hlt) (HR.out k hlt)).mono ?_
      rintro e w1 ⟨rfl, hb1⟩
      have HB1 := qH (HB.out.trans (((below1 wr (.cells #[.bool (S k), .slice (A k) (X k).length (C k), .int .i64 (E k)] 26)).trans (hb1.mono (by simp))).mono HB.out.size))
      clear hb1 g0 g1 g2
      obtain ⟨r, hr⟩ : ∃ r, R k = r := ⟨_, rfl⟩
      have HRK := qH hr
      rw [hr]
      clear hr
      cases r
      · have HN := qH (allB_no HRK.out n hlt)
        go_wp2
        try rw [Exit.noGoto_ret]
        go_ret
        exact ⟨by rw [HN.out]; rfl, HB1.out⟩
      · have HS := qH (show allB R (k + 1) = true by unfold allB; rw [HA.out, HRK.out]; rfl)
        go_wp2
        go_roundw
        case rel => exact ⟨k + 1, by omega, by go_num, HS, HB1⟩
        case measure => simp [intOf]; omega
    · obtain rfl : k = n := by omega
      go_wp2
      go_ret
      exact ⟨by rw [HA.out]; rfl, HB.out⟩
theorem plain_w (A : Option Addr) (c : Nat) (s : Bool) (xs : List Nat) (x : Int) (w : World) (h : Dg w A c xs) (hl : xs.length ≤ 9223372036854775807) (hq : dyR s xs x = false):
    Calls Tryz.prog 27 #[.agg #[.bool s, .slice A xs.length c, .int .i64 x]] w fun e w' => e = .returned (.bool false) ∧ Below w.heap.size w w' := by
  have lx := qH hl
  have HQ := qH hq
  have L0 := qH ((live_start w).add h)
  clear h hl hq
  go_enter Tryz.func27, Tryz.ntmps27
  go_wp2_with fail
  obtain ⟨v1, hW, hb, Rx_1⟩ := new1 w (.cells #[.bool s, .slice A xs.length c, .int .i64 x] 26)
  rw [← hW]
  have L1 := ls L0 hb
  have Gx := gl0 L0.out
  clear hW hb
  refine (dsz_no A c s xs x _ (L1.out.get (A := A) (c := c) (xs := xs) (by simp)) lx.out (.inr HQ.out)).mono ?_
  rintro e w2 ⟨rfl, hb⟩
  have L2 := ls L1 hb
  have Rx_2 := co Rx_1 hb
  clear hb 
  obtain ⟨fx0, zx0, fx1, zx1, fx2, zx2, xx⟩ := ly3 Rx_2.out
  go_wp2_with fail
  refine (dright_any A c s xs x _ (L2.out.get (A := A) (c := c) (xs := xs) (by simp)) false HQ.out lx.out).mono ?_
  rintro e w3 ⟨rfl, hb⟩
  have L3 := ls L2 hb
  clear fx0 zx0 fx1 zx1 fx2 zx2 xx
  have Rx_3 := co Rx_2 hb
  clear hb 
  obtain ⟨fx0, zx0, fx1, zx1, fx2, zx2, xx⟩ := ly3 Rx_3.out
  go_wp2
  go_ret
  exact ⟨rfl, L3.out.1⟩
theorem plain_z (A : Option Addr) (c : Nat) (m x : Int) (w : World) (h : Dg w A c (digs m.natAbs)) (hl : (digs m.natAbs).length ≤ 10000) (r1 : Rt m x) (m0 : m = 0):
    Calls Tryz.prog 27 #[.agg #[.bool (decide (m < 0)), .slice A (digs m.natAbs).length c, .int .i64 x]] w fun e w' => e = .returned (.bool true) ∧ Below w.heap.size w w' := by
  have lx := qH hl
  have HR := qH (dyR_num r1)
  have HR1 := qH r1
  have HZL := qH (show (digs m.natAbs).length = 0 by rw [m0, show digs (0 : Int).natAbs = [] from digs_zero]; rfl)
  have L0 := qH ((live_start w).add h)
  clear h hl r1 m0
  go_enter Tryz.func27, Tryz.ntmps27
  go_wp2_with fail
  obtain ⟨v1, hW, hb, Rx_1⟩ := new1 w (.cells #[.bool (decide (m < 0)), .slice A (digs m.natAbs).length c, .int .i64 x] 26)
  rw [← hW]
  have L1 := ls L0 hb
  have Gx := gl0 L0.out
  clear hW hb
  refine (dsz_no A c _ _ _ _ (L1.out.get (A := A) (c := c) (xs := digs m.natAbs) (by simp)) (Nat.le_trans lx.out (by omega)) (.inl HZL.out)).mono ?_
  rintro e w2 ⟨rfl, hb⟩
  have L2 := ls L1 hb
  have Rx_2 := co Rx_1 hb
  clear hb 
  obtain ⟨fx0, zx0, fx1, zx1, fx2, zx2, xx⟩ := ly3 Rx_2.out
  go_wp2_with fail
  refine (dright_any A c _ _ _ _ (L2.out.get (A := A) (c := c) (xs := digs m.natAbs) (by simp)) true HR.out (Nat.le_trans lx.out (by omega))).mono ?_
  rintro e w3 ⟨rfl, hb⟩
  have L3 := ls L2 hb
  clear fx0 zx0 fx1 zx1 fx2 zx2 xx
  have Rx_3 := co Rx_2 hb
  clear hb 
  obtain ⟨fx0, zx0, fx1, zx1, fx2, zx2, xx⟩ := ly3 Rx_3.out
  go_wp2
  go_ret
  exact ⟨rfl, L3.out.1⟩
theorem plain_l (A : Option Addr) (c : Nat) (m x : Int) (w : World) (h : Dg w A c (digs m.natAbs)) (hl : (digs m.natAbs).length ≤ 10000) (r1 : Rt m x) (m0 : m ≠ 0) (hx : x < -64):
    Calls Tryz.prog 27 #[.agg #[.bool (decide (m < 0)), .slice A (digs m.natAbs).length c, .int .i64 x]] w fun e w' => e = .returned (.bool false) ∧ Below w.heap.size w w' := by
  have lx := qH hl
  have HR := qH (dyR_num r1)
  have HR1 := qH r1
  obtain ⟨k, hk⟩ : ∃ k : Int, x + bl m = k := ⟨_, rfl⟩
  have HK := qH hk
  have HM0 := qH m0
  have d1 : decide (-64 ≤ x) = false := decide_eq_false (by omega)
  have L0 := qH ((live_start w).add h)
  clear h hl r1 m0 hk hx
  go_enter Tryz.func27, Tryz.ntmps27
  go_wp2_with fail
  obtain ⟨v1, hW, hb, Rx_1⟩ := new1 w (.cells #[.bool (decide (m < 0)), .slice A (digs m.natAbs).length c, .int .i64 x] 26)
  rw [← hW]
  have L1 := ls L0 hb
  have Gx := gl0 L0.out
  clear hW hb
  refine (size_yes A c m x _ (L1.out.get (A := A) (c := c) (xs := digs m.natAbs) (by simp)) lx.out HR1.out HM0.out HK.out).mono ?_
  rintro e w2 ⟨rfl, hb⟩
  have L2 := ls L1 hb
  have Rx_2 := co Rx_1 hb
  clear hb 
  obtain ⟨fx0, zx0, fx1, zx1, fx2, zx2, xx⟩ := ly3 Rx_2.out
  go_wp2_with fail
  refine (dright_any A c _ _ _ _ (L2.out.get (A := A) (c := c) (xs := digs m.natAbs) (by simp)) true HR.out (Nat.le_trans lx.out (by omega))).mono ?_
  rintro e w3 ⟨rfl, hb⟩
  have L3 := ls L2 hb
  clear fx0 zx0 fx1 zx1 fx2 zx2 xx
  have Rx_3 := co Rx_2 hb
  clear hb 
  obtain ⟨fx0, zx0, fx1, zx1, fx2, zx2, xx⟩ := ly3 Rx_3.out
  go_wp2
  go_ret
  exact ⟨rfl, L3.out.1⟩
theorem plain_y (A : Option Addr) (c : Nat) (m x : Int) (w : World) (h : Dg w A c (digs m.natAbs)) (hl : (digs m.natAbs).length ≤ 10000) (r1 : Rt m x) (m0 : m ≠ 0) (hx : -64 ≤ x) {q : Bool} (hq : decide (x + bl m ≤ 16) = q):
    Calls Tryz.prog 27 #[.agg #[.bool (decide (m < 0)), .slice A (digs m.natAbs).length c, .int .i64 x]] w fun e w' => e = .returned (.bool q) ∧ Below w.heap.size w w' := by
  have lx := qH hl
  have HR := qH (dyR_num r1)
  have HR1 := qH r1
  obtain ⟨k, hk⟩ : ∃ k : Int, x + bl m = k := ⟨_, rfl⟩
  have HK := qH hk
  have HM0 := qH m0
  have d1 : decide (-64 ≤ x) = true := decide_eq_true (by omega)
  have d2 : decide (k ≤ 16) = q := by rw [← hq, hk]
  have L0 := qH ((live_start w).add h)
  clear h hl r1 m0 hk hx hq
  go_enter Tryz.func27, Tryz.ntmps27
  go_wp2_with fail
  obtain ⟨v1, hW, hb, Rx_1⟩ := new1 w (.cells #[.bool (decide (m < 0)), .slice A (digs m.natAbs).length c, .int .i64 x] 26)
  rw [← hW]
  have L1 := ls L0 hb
  have Gx := gl0 L0.out
  clear hW hb
  refine (size_yes A c m x _ (L1.out.get (A := A) (c := c) (xs := digs m.natAbs) (by simp)) lx.out HR1.out HM0.out HK.out).mono ?_
  rintro e w2 ⟨rfl, hb⟩
  have L2 := ls L1 hb
  have Rx_2 := co Rx_1 hb
  clear hb 
  obtain ⟨fx0, zx0, fx1, zx1, fx2, zx2, xx⟩ := ly3 Rx_2.out
  go_wp2_with fail
  refine (dright_any A c _ _ _ _ (L2.out.get (A := A) (c := c) (xs := digs m.natAbs) (by simp)) true HR.out (Nat.le_trans lx.out (by omega))).mono ?_
  rintro e w3 ⟨rfl, hb⟩
  have L3 := ls L2 hb
  clear fx0 zx0 fx1 zx1 fx2 zx2 xx
  have Rx_3 := co Rx_2 hb
  clear hb 
  obtain ⟨fx0, zx0, fx1, zx1, fx2, zx2, xx⟩ := ly3 Rx_3.out
  go_wp2
  go_ret
  exact ⟨rfl, L3.out.1⟩
def plainB (s : Bool) (xs : List Nat) (x : Int) : Bool := dyR s xs x && (decide (xs.length = 0) || (decide (-64 ≤ x) && decide (x + (blen (val xs) : Nat) ≤ 16)))
theorem plain_any {A : Option Addr} {c : Nat} {s : Bool} {xs : List Nat} {x : Int} {q : Bool} {w : World} (h : Dg w A c xs) (hl : xs.length ≤ 10000) (hq : plainB s xs x = q) :
    Calls Tryz.prog 27 #[.agg #[.bool s, .slice A xs.length c, .int .i64 x]] w fun e w' => e = .returned (.bool q) ∧ Below w.heap.size w w' := by
  unfold plainB at hq
  cases hr : dyR s xs x
  · obtain rfl : q = false := by rw [← hq, hr]; rfl
    exact plain_w A c s xs x w h (by omega) hr
  · rw [hr, Bool.true_and] at hq
    obtain ⟨m, rfl, rfl, r1⟩ := num_of h.2.1 hr
    by_cases m0 : m = 0
    · obtain rfl : q = true := by rw [← hq, decide_eq_true (show (digs m.natAbs).length = 0 by rw [m0, show digs (0 : Int).natAbs = [] from digs_zero]; rfl)]; rfl
      exact plain_z A c m x w h hl r1 m0
    · rw [decide_eq_false (fun e => m0 (by have := digs_nil.1 e; omega)), Bool.false_or, val_digs] at hq
      by_cases hx : x < -64
      · obtain rfl : q = false := by rw [← hq, decide_eq_false (by omega)]; rfl
        exact plain_l A c m x w h hl r1 m0 hx
      · rw [decide_eq_true (by omega), Bool.true_and] at hq
        exact plain_y A c m x w h hl r1 m0 (by omega) hq
end Go.Proofs.YtdmfapgclppmhaaGreatDoor
end
section
namespace Go.Proofs.YtdmfapgclppmhaaGreatDoor
open Go.RowKit
section
variable {P : Program} {ops : Array Oper} {Q : Exit → Act → World → Prop} {md : Region.Mode}
theorem wpAny_phaseP {Pb Ob : Nat → Bool} (I : Array Bool → Act → World → Prop) (hb : backB md ops = true) (hne : ∃ j, j < ops.size ∧ Ob j = false)
    (hP : ∀ i, i < ops.size → Ob i = false → ∀ k, k < ops.size → Pb k = true → waitsT md ops ops.size i k = true)
    (step : ∀ l a w i, I l a w → l.size = ops.size → i < ops.size → Ob i = true → i ∈ Region.ready md ops l → wpOp P ops Q i (fun a' w' => I (l.setIfInBounds i true) a' w') a w)
    (fin : ∀ l a w, I l a w → l.size = ops.size → (∀ i, i < ops.size → Pb i = true → l.getD i false = true) → (∀ i, i < ops.size → Ob i = false → l.getD i false = false) → ∀ fuel, still l ≤ fuel → wpAny P md ops Q fuel l a w) :
    ∀ (fuel : Nat) (l : Array Bool) (a : Act) (w : World), still l ≤ fuel → l.size = ops.size → Down md ops l → (∀ k, k < ops.size → Ob k = false → l.getD k false = false) → I l a w → wpAny P md ops Q fuel l a w := by
  intro fuel
  induction fuel with
  | zero =>
    intro l a w hf hl hd hno hI
    exfalso
    obtain ⟨j, hj, hjp⟩ := hne
    have h1 := hno j hj hjp
    have h2 : l.getD j true = false := by
      have : j < l.size := by omega
      simp [this] at h1 ⊢; exact h1
    have := still_set h2
    omega
  | succ fuel ih =>
    intro l a w hf hl hd hno hI
    by_cases hall : ∀ k, k < ops.size → Pb k = true → l.getD k false = true
    · exact fin l a w hI hl hall hno _ hf
    · refine ⟨fun hr => ?_, fun i hi => ?_⟩
      · exfalso
        obtain ⟨j, hj, hjp⟩ := hne
        have := all_of_back hb hl hr j hj
        rw [hno j hj hjp] at this; cases this
      · have hiu := (mem_ready.1 hi).1
        have hin : i < ops.size := by
          rcases Nat.lt_or_ge i l.size with h' | h'
          · omega
          · simp [Array.getElem?_eq_none h'] at hiu
        have hip : Ob i = true := by
          cases hp : Ob i
          · exfalso; apply hall
            intro k hk hkp
            exact hd.ready hi (hP i hin hp k hk hkp)
          · rfl
        have hst := still_set hiu
        refine wpOp_mono (fun a' w' h' => ih _ a' w' (by omega) (by simpa using hl) (hd.set hi) (fun k hk hkp => ?_) h') (step l a w i hI hl hin hip hi)
        have : i ≠ k := by rintro rfl; rw [hip] at hkp; cases hkp
        rw [getD_set_ne false this]; exact hno k hk hkp
theorem wpAny_late {L0 : Array Bool} {x y z : Nat} {a : Act} {w : World} {fuel : Nat} (hf : 3 ≤ fuel) (r1 : Region.ready md ops L0 = [x, y]) (r2 : Region.ready md ops (L0.setIfInBounds x true) = [y]) (r3 : Region.ready md ops (L0.setIfInBounds y true) = [x])
    (r4 : Region.ready md ops ((L0.setIfInBounds x true).setIfInBounds y true) = [z]) (r5 : Region.ready md ops ((L0.setIfInBounds y true).setIfInBounds x true) = [z])
    (r6 : Region.ready md ops (((L0.setIfInBounds x true).setIfInBounds y true).setIfInBounds z true) = []) (r7 : Region.ready md ops (((L0.setIfInBounds y true).setIfInBounds x true).setIfInBounds z true) = [])
    (h1 : wpOps P ops Q [x, y, z] a w) (h2 : wpOps P ops Q [y, x, z] a w) : wpAny P md ops Q fuel L0 a w := by
  obtain ⟨f, rfl⟩ : ∃ f, fuel = f + 1 + 1 + 1 := ⟨fuel - 3, by omega⟩
  have hend : ∀ l a w, Region.ready md ops l = [] → Q .normal a w → wpAny P md ops Q f l a w := by
    intro l a w hr hq
    cases f with
    | zero => exact ⟨hr, hq⟩
    | succ f => exact ⟨fun _ => hq, fun i hi => by rw [hr] at hi; cases hi⟩
  simp only [wpOps_cons] at h1 h2
  refine ⟨fun hr => (by rw [r1] at hr; cases hr), fun i hi => ?_⟩
  rw [r1] at hi
  simp only [List.mem_cons, List.not_mem_nil, or_false] at hi
  rcases hi with rfl | rfl
  · refine wpOp_mono (fun a w h => ⟨fun hr => (by rw [r2] at hr; cases hr), fun j hj => ?_⟩) h1
    rw [r2] at hj; simp only [List.mem_cons, List.not_mem_nil, or_false] at hj; subst hj
    refine wpOp_mono (fun a w h => ⟨fun hr => (by rw [r4] at hr; cases hr), fun j hj => ?_⟩) h
    rw [r4] at hj; simp only [List.mem_cons, List.not_mem_nil, or_false] at hj; subst hj
    exact wpOp_mono (fun a w h => hend _ _ _ r6 h) h
  · refine wpOp_mono (fun a w h => ⟨fun hr => (by rw [r3] at hr; cases hr), fun j hj => ?_⟩) h2
    rw [r3] at hj; simp only [List.mem_cons, List.not_mem_nil, or_false] at hj; subst hj
    refine wpOp_mono (fun a w h => ⟨fun hr => (by rw [r5] at hr; cases hr), fun j hj => ?_⟩) h
    rw [r5] at hj; simp only [List.mem_cons, List.not_mem_nil, or_false] at hj; subst hj
    exact wpOp_mono (fun a w h => hend _ _ _ r7 h) h
theorem wpAny_two {L0 : Array Bool} {y z : Nat} {a : Act} {w : World} {fuel : Nat} (hf : 2 ≤ fuel) (r1 : Region.ready md ops L0 = [y]) (r2 : Region.ready md ops (L0.setIfInBounds y true) = [z]) (r3 : Region.ready md ops ((L0.setIfInBounds y true).setIfInBounds z true) = [])
    (h1 : wpOps P ops Q [y, z] a w) : wpAny P md ops Q fuel L0 a w := by
  obtain ⟨f, rfl⟩ : ∃ f, fuel = f + 1 + 1 := ⟨fuel - 2, by omega⟩
  have hend : ∀ l a w, Region.ready md ops l = [] → Q .normal a w → wpAny P md ops Q f l a w := by
    intro l a w hr hq
    cases f with
    | zero => exact ⟨hr, hq⟩
    | succ f => exact ⟨fun _ => hq, fun i hi => by rw [hr] at hi; cases hi⟩
  simp only [wpOps_cons] at h1
  refine ⟨fun hr => (by rw [r1] at hr; cases hr), fun i hi => ?_⟩
  rw [r1] at hi; simp only [List.mem_cons, List.not_mem_nil, or_false] at hi; subst hi
  refine wpOp_mono (fun a w h => ⟨fun hr => (by rw [r2] at hr; cases hr), fun j hj => ?_⟩) h1
  rw [r2] at hj; simp only [List.mem_cons, List.not_mem_nil, or_false] at hj; subst hj
  exact wpOp_mono (fun a w h => hend _ _ _ r3 h) h
theorem wp_operands_late {id : Nat} {a0 : Act} {W : World} (hm : P.follows .mixedOrders = true) (x y z : Nat) (S : List Nat) (D : List Tmp) (R : Nat → Value → World → Prop)
    (hn : ((List.range ops.size).all fun i => S.contains i || i == x || i == y || i == z) = true) (hb : backB .any ops = true) (hx : x < ops.size ∧ y < ops.size ∧ z < ops.size ∧ x ≠ y ∧ x ≠ z ∧ y ≠ z)
    (hS : (S.all fun i => decide (i < ops.size) && decide (i ≠ x) && decide (i ≠ y) && decide (i ≠ z)) = true)
    (ht : ([y, z].all fun i => S.all fun k => waitsT .any ops ops.size i k) = true) (hw : ((x :: S).all fun i => (List.range ops.size).all fun k => !waitsB .any ops i k || S.contains k) = true)
    (hnd : ((x :: S).map (D.getD · 0)).Nodup) (hin : ((x :: S).all fun i => decide (D.getD i 0 < a0.tmps.size)) = true)
    (r1 : Region.ready .any ops ((List.range ops.size).map (S.contains ·)).toArray = [x, y]) (r2 : Region.ready .any ops (((List.range ops.size).map (S.contains ·)).toArray.setIfInBounds x true) = [y]) (r3 : Region.ready .any ops (((List.range ops.size).map (S.contains ·)).toArray.setIfInBounds y true) = [x])
    (r4 : Region.ready .any ops ((((List.range ops.size).map (S.contains ·)).toArray.setIfInBounds x true).setIfInBounds y true) = [z]) (r5 : Region.ready .any ops ((((List.range ops.size).map (S.contains ·)).toArray.setIfInBounds y true).setIfInBounds x true) = [z])
    (r6 : Region.ready .any ops (((((List.range ops.size).map (S.contains ·)).toArray.setIfInBounds x true).setIfInBounds y true).setIfInBounds z true) = []) (r7 : Region.ready .any ops (((((List.range ops.size).map (S.contains ·)).toArray.setIfInBounds y true).setIfInBounds x true).setIfInBounds z true) = [])
    (st : ∀ i u w w', i ∈ x :: S → R i u w → Below w.heap.size w w' → R i u w')
    (step : ∀ i a w K, i ∈ x :: S → Fr6 ((x :: S).map (D.getD · 0)) a0 a → Below W.heap.size W w → (∀ k, waitsB .any ops i k = true → R k (a.tmps.getD (D.getD k 0) undef) w) →
      (∀ u w', R i u w' → Below w.heap.size w w' → K (a.put (some (D.getD i 0)) u) w') → wpOp P ops Q i K a w)
    (fin : ∀ a w, Fr6 ((x :: S).map (D.getD · 0)) a0 a → Below W.heap.size W w → (∀ i, i ∈ S → R i (a.tmps.getD (D.getD i 0) undef) w) → (wpOps P ops Q [x, y, z] a w ∧ wpOps P ops Q [y, x, z] a w) ∧ (R x (a.tmps.getD (D.getD x 0) undef) w → wpOps P ops Q [y, z] a w)) :
    (Code.region id ops true).wp P Q a0 W := by
  have memS : ∀ i, i ∈ S → i < ops.size := fun i hi => by
    rw [List.all_eq_true] at hS
    have := hS i hi
    simp only [Bool.and_eq_true, decide_eq_true_eq] at this
    exact this.1.1.1
  have notS : ∀ i, i ∈ S → i ≠ x ∧ i ≠ y ∧ i ≠ z := fun i hi => by
    rw [List.all_eq_true] at hS
    have := hS i hi
    simp only [Bool.and_eq_true, decide_eq_true_eq] at this
    exact ⟨this.1.1.2, this.1.2, this.2⟩
  have memO : ∀ i, i ∈ x :: S → i < ops.size := fun i hi => by
    rcases List.mem_cons.1 hi with rfl | h
    · exact hx.1
    · exact memS i h
  have hlt : ∀ i, i ∈ x :: S → D.getD i 0 < a0.tmps.size := fun i hi => by
    rw [List.all_eq_true] at hin
    simpa using hin i hi
  have hne : ∀ i j, i ∈ x :: S → j ∈ x :: S → i ≠ j → D.getD i 0 ≠ D.getD j 0 := fun i j hi hj h e => by
    obtain ⟨p, hp, hpe⟩ := List.getElem_of_mem hi
    obtain ⟨q, hq, hqe⟩ := List.getElem_of_mem hj
    have h1 : ((x :: S).map (D.getD · 0))[p]'(by simpa using hp) = ((x :: S).map (D.getD · 0))[q]'(by simpa using hq) := by
      rw [List.getElem_map, List.getElem_map, hpe, hqe]; exact e
    have h2 := (List.getElem_inj hnd).1 h1
    subst h2
    exact h (hpe.symm.trans hqe)
  have hmem : ∀ i, i ∈ x :: S → D.getD i 0 ∈ (x :: S).map (D.getD · 0) := fun i hi => List.mem_map.2 ⟨i, hi, rfl⟩
  have hrest : ∀ i, i < ops.size → (x :: S).contains i = false → i = y ∨ i = z := by
    intro i hi hc
    rw [List.all_eq_true] at hn
    have h1 := hn i (List.mem_range.2 hi)
    have h2 : i ∉ x :: S := fun hm => by rw [List.contains_iff_mem.2 hm] at hc; cases hc
    simp only [List.mem_cons, not_or] at h2
    have h3 : S.contains i = false := by
      cases h4 : S.contains i
      · rfl
      · exact absurd (List.contains_iff_mem.1 h4) h2.2
    rw [h3] at h1
    have h5 : (i == x) = false := by simpa using h2.1
    rw [h5] at h1
    simpa using h1
  have yO : (x :: S).contains y = false := by
    cases hc : (x :: S).contains y
    · rfl
    · rcases List.mem_cons.1 (List.contains_iff_mem.1 hc) with h | h
      · exact absurd h.symm hx.2.2.2.1
      · exact absurd rfl (notS y h).2.1
  have zO : (x :: S).contains z = false := by
    cases hc : (x :: S).contains z
    · rfl
    · rcases List.mem_cons.1 (List.contains_iff_mem.1 hc) with h | h
      · exact absurd h.symm hx.2.2.2.2.1
      · exact absurd rfl (notS z h).2.2
  have zz : ∀ j, (Array.replicate ops.size false).getD j false = false := by intro j; simp [Array.getElem?_replicate]; split <;> rfl
  refine wp_region_any hm (wpAny_phaseP (Pb := fun i => S.contains i) (Ob := fun i => (x :: S).contains i) (fun l a w => Fr6 ((x :: S).map (D.getD · 0)) a0 a ∧ Below W.heap.size W w ∧ (∀ i, i ∈ x :: S → l.getD i false = true → R i (a.tmps.getD (D.getD i 0) undef) w)) hb
    ⟨y, hx.2.1, yO⟩ ?_ ?_ ?_ _ _ _ _ ?_ (by simp) ?_ ?_ ?_)
  · intro i hi hc k hk hkp
    rw [List.all_eq_true] at ht
    have hi3 : i ∈ [y, z] := by rcases hrest i hi hc with rfl | rfl <;> simp
    have := ht i hi3
    rw [List.all_eq_true] at this
    exact this k (List.contains_iff_mem.1 hkp)
  · rintro l a w i ⟨hF, hbw, hR⟩ hl hi hip hir
    have hiS := List.contains_iff_mem.1 hip
    have ps : a.tmps.size = a0.tmps.size := hF.2.1
    refine step i a w _ hiS hF hbw (fun k hk => hR k ?_ (waits_spec hk hir)) (fun u w' hu hbb => ⟨hF.put (hmem i hiS) _, hbw.trans (hbb.mono hbw.size), fun j hj hjl => ?_⟩)
    · rw [List.all_eq_true] at hw
      have h1 := hw i hiS
      rw [List.all_eq_true] at h1
      have hks : k < ops.size := by
        rcases Nat.lt_or_ge k ops.size with h | h
        · exact h
        · exfalso
          have := waits_spec hk hir
          have h2 : l.size ≤ k := by omega
          simp [Array.getElem?_eq_none h2] at this
      have h2 := h1 k (List.mem_range.2 hks)
      rw [hk] at h2
      exact List.mem_cons_of_mem _ (List.contains_iff_mem.1 (by simpa using h2))
    · by_cases hij : i = j
      · subst hij; rw [put_same _ _ _ (by rw [ps]; exact hlt i hiS)]; exact hu
      · rw [getD_set_ne false hij] at hjl
        rw [put_other _ _ _ _ (hne i j hiS hj hij)]
        exact st j _ _ _ hj (hR j hj hjl) hbb
  · rintro l a w ⟨hF, hbw, hR⟩ hl hall hno fuel hfu
    have hf := fin a w hF hbw (fun i hi => hR i (List.mem_cons_of_mem _ hi) (hall i (memS i hi) (List.contains_iff_mem.2 hi)))
    have gt : ∀ (m : Array Bool) (j : Nat), j < m.size → m.getD j false = false → m.getD j true = false := by
      intro m j hj h
      simp [hj] at h ⊢; exact h
    have ly := gt l y (by have := hx.2.1; omega) (hno y hx.2.1 yO)
    have lz := gt l z (by have := hx.2.2.1; omega) (hno z hx.2.2.1 zO)
    have hval : ∀ i, i < ops.size → i ≠ x → l.getD i false = S.contains i := by
      intro i hi hix
      cases hc : S.contains i
      · refine hno i hi ?_
        cases hc2 : (x :: S).contains i
        · rfl
        · rcases List.mem_cons.1 (List.contains_iff_mem.1 hc2) with h | h
          · exact absurd h hix
          · rw [List.contains_iff_mem.2 h] at hc; cases hc
      · exact hall i hi hc
    have xS : S.contains x = false := by
      cases hc : S.contains x
      · rfl
      · exact absurd rfl (notS x (List.contains_iff_mem.1 hc)).1
    have two : 2 ≤ still l := by
      have s1 := still_set ly
      have e2 : (l.setIfInBounds y true).getD z true = false := by rw [getD_set_ne true hx.2.2.2.2.2]; exact lz
      have s2 := still_set e2
      omega
    cases hlx : l.getD x false
    · have hlL : l = ((List.range ops.size).map (S.contains ·)).toArray := by
        apply Array.ext
        · simp [hl]
        · intro i h1 h2
          have : l.getD i false = S.contains i := by
            by_cases hix : i = x
            · rw [hix, hlx, xS]
            · exact hval i (by omega) hix
          simp only [Array.getD_eq_getD_getElem?, Array.getElem?_eq_getElem h1, Option.getD_some] at this
          rw [this]; simp
      have lx := gt l x (by have := hx.1; omega) hlx
      have three : 3 ≤ still l := by
        have s1 := still_set lx
        have e1 : (l.setIfInBounds x true).getD y true = false := by rw [getD_set_ne true hx.2.2.2.1]; exact ly
        have s2 := still_set e1
        have e2 : ((l.setIfInBounds x true).setIfInBounds y true).getD z true = false := by rw [getD_set_ne true hx.2.2.2.2.2, getD_set_ne true hx.2.2.2.2.1]; exact lz
        have s3 := still_set e2
        omega
      rw [hlL]
      exact wpAny_late (by omega) r1 r2 r3 r4 r5 r6 r7 hf.1.1 hf.1.2
    · have hlL : l = (((List.range ops.size).map (S.contains ·)).toArray.setIfInBounds x true) := by
        apply Array.ext
        · simp [hl]
        · intro i h1 h2
          by_cases hix : i = x
          · subst hix
            simp only [Array.getD_eq_getD_getElem?, Array.getElem?_eq_getElem h1, Option.getD_some] at hlx
            rw [hlx]; simp
          · have := hval i (by omega) hix
            simp only [Array.getD_eq_getD_getElem?, Array.getElem?_eq_getElem h1, Option.getD_some] at this
            rw [this, Array.getElem_setIfInBounds]
            rw [if_neg (fun e => hix e.symm)]; simp
            exact (by simp; omega)
      rw [hlL]
      exact wpAny_two (by omega) r2 r4 r6 (hf.2 (hR x (List.mem_cons_self ..) hlx))
  · unfold still; exact Nat.le_trans (List.count_le_length) (by simp)
  · exact fun j hj => absurd hj (by rw [zz]; simp)
  · exact fun k _ _ => zz k
  · exact ⟨⟨rfl, rfl, fun _ _ => rfl⟩, ⟨rfl, rfl, rfl, Nat.le_refl _, fun _ _ => rfl⟩, fun i _ hi => absurd hi (by rw [zz]; simp)⟩
end
end Go.Proofs.YtdmfapgclppmhaaGreatDoor
end
section
namespace Go.Proofs.YtdmfapgclppmhaaGreatDoor
open Go.RowKit
theorem end_n (A : Option Addr) (c : Nat) (m v W t M E K F V : Int) (w : World) (h : Dg w A c (digs m.natAbs)) (hl : (digs m.natAbs).length ≤ 10000) (r1 : Rt m v) (hT : T32 w) (h0 : -30 ≤ W) (h1 : W ≤ 10) (hu : t = 1) (hs : IsD (dv m v + dv t W) M E) (hq : tot M E = (K, F, V)):
    Calls Tryz.prog 30 #[.agg #[.bool (decide (m < 0)), .slice A (digs m.natAbs).length c, .int .i64 v], .int .i64 W] w fun e w' => Yr K F w e w' := by
  have lx := qH hl
  have HR1 := qH r1
  have HS := qH hs
  have HQ := qH hq
  have RU := qH (show Rt t W by subst hu; exact ⟨.inr rfl, by omega, by omega⟩)
  have LU := qH (show (digs t.natAbs).length ≤ 10000 from Nat.le_trans (digs_small (by omega)) (by omega : 2 ≤ 10000))
  have HH := qH (fun (W1 : World) (hT1 : T32 W1) => half_u W t W1 hT1 (by omega) (by omega) hu)
  have HT := qH hT
  clear hT
  have L0 := qH ((live_start w).add h)
  clear h hl r1 hs hq hu h0 h1
  go_enter Tryz.func30, Tryz.ntmps30
  go_wp2_with fail
  obtain ⟨v1, hW, hb, Rx_1, Rr_1⟩ := new2 w (.cells #[.bool (decide (m < 0)), .slice A (digs m.natAbs).length c, .int .i64 v] 26) (.cells #[.bool false, .slice none 0 0, .int .i64 0] 26)
  rw [← hW]
  have L1 := ls L0 hb
  have Gx := gl0 L0.out
  have Gr := gl1 L0.out
  have Nxr : w.heap.size < w.heap.size + 1 := by omega
  clear hW hb
  refine wp_operands_late (W := v1) rfl 6 8 9 [0, 1, 2, 3, 4, 5, 7] [8, 9, 10, 11, 7, 12, 13, 5] (fun i u ww => match i with | 6 => u = .int .i64 V | 0 => u = .agg #[.bool (decide (m < 0)), .slice A (digs m.natAbs).length c, .int .i64 v] | 1 => u = .int .i64 W | 2 => ∃ A c, u = .agg #[.bool (decide (t < 0)), .slice A (digs t.natAbs).length c, .int .i64 W] ∧ Dg ww A c (digs t.natAbs) | 3 => ∃ A c, u = .tuple #[.agg #[.bool (decide (K < 0)), .slice A (digs K.natAbs).length c, .int .i64 F], .int .i64 V] ∧ Dg ww A c (digs K.natAbs) | 4 => ∃ A c, u = .tuple #[.agg #[.bool (decide (K < 0)), .slice A (digs K.natAbs).length c, .int .i64 F], .int .i64 V] ∧ Dg ww A c (digs K.natAbs) | 5 => ∃ A c, u = .agg #[.bool (decide (K < 0)), .slice A (digs K.natAbs).length c, .int .i64 F] ∧ Dg ww A c (digs K.natAbs) | 7 => ∃ g, u = .pointer (some ⟨g, 0, none⟩) ∧ ww.heap[g]? = some (.cells #[.bool false, .slice none 0 0, .int .i64 0] 26 (0, 0)) ∧ v1.heap.size ≤ g | _ => True)
    (by kernel_rfl) (by kernel_rfl) (by decide) (by kernel_rfl) (by kernel_rfl) (by kernel_rfl) (by decide) (by kernel_rfl) (by kernel_rfl) (by kernel_rfl) (by kernel_rfl) (by kernel_rfl) (by kernel_rfl) (by kernel_rfl) (by kernel_rfl) ?_ ?_ ?_
  · intro i u x y hi h hb
    have hi' : i = 6 ∨ i = 0 ∨ i = 1 ∨ i = 2 ∨ i = 3 ∨ i = 4 ∨ i = 5 ∨ i = 7 := by simpa using hi
    rcases hi' with rfl | rfl | rfl | rfl | rfl | rfl | rfl | rfl
    · exact h
    · exact h
    · exact h
    · obtain ⟨A, c, e, hd⟩ := h
      exact ⟨A, c, e, hd.below hb⟩
    · obtain ⟨A, c, e, hd⟩ := h
      exact ⟨A, c, e, hd.below hb⟩
    · obtain ⟨A, c, e, hd⟩ := h
      exact ⟨A, c, e, hd.below hb⟩
    · obtain ⟨A, c, e, hd⟩ := h
      exact ⟨A, c, e, hd.below hb⟩
    · obtain ⟨g, e, hg, hge⟩ := h
      exact ⟨g, e, cells_of hg hb, hge⟩
  · intro i a x KK hi hF hb hw hK
    have hi' : i = 6 ∨ i = 0 ∨ i = 1 ∨ i = 2 ∨ i = 3 ∨ i = 4 ∨ i = 5 ∨ i = 7 := by simpa using hi
    rcases hi' with rfl | rfl | rfl | rfl | rfl | rfl | rfl | rfl
    · simp only [wpOp, gAy, gSy, gZy, Region.wanted, if_true]
      refine Or.inl ?_
      obtain ⟨A', c', e0, hd⟩ := hw 4 (by kernel_rfl)
      have e0 : a.eval (.tmp 7) = _ := e0
      clear hw hF
      simp only [Oper.wp, execOp]
      rw [e0]
      go_simp
      exact hK _ x (by first | rfl | simp) (Below.refl _ _)
    · simp only [wpOp, gAy, gZy, Region.wanted, if_true]
      refine Or.inl ?_
      have e0 : a.eval (.tmp 2) = .pointer (some ⟨w.heap.size, 0, none⟩) := hF.2.2 2 (by decide)
      have f0 := row_cell Rx_1.out hb 0
      have f1 := row_cell Rx_1.out hb 1
      have f2 := row_cell Rx_1.out hb 2
      simp only [gAy, gSy, gZy] at f0 f1 f2
      clear hw hF
      simp only [Oper.wp, execOp]
      rw [e0]
      go_simp
      exact hK _ x (by first | rfl | simp) (Below.refl _ _)
    · simp only [wpOp, gAy, gSy, gZy, Region.wanted, if_true]
      refine Or.inl ?_
      have e0 : a.eval (.tmp 1) = .int .i64 W := hF.2.2 1 (by decide)
      clear hw hF
      simp only [Oper.wp, execOp]
      rw [e0]
      go_simp
      exact hK _ x (by first | rfl | simp) (Below.refl _ _)
    · simp only [wpOp, gAy, gSy, gZy, Region.wanted, if_true]
      refine Or.inl ?_
      have e0 : a.tmps.getD 9 undef = .int .i64 W := hw 1 (by kernel_rfl)
      clear hw hF
      simp only [Oper.wp, execOp]
      go_simp
      refine (HH.out _ (t32_live HT.out (L1.out.step hb))).mono ?_
      rintro e y ⟨A2, c2, rfl, hd2, hbb⟩
      exact hK _ y ⟨A2, c2, rfl, hd2⟩ hbb
    · simp only [wpOp, gAy, gSy, gZy, Region.wanted, if_true]
      refine Or.inl ?_
      have e0 : a.tmps.getD 8 undef = .agg #[.bool (decide (m < 0)), .slice A (digs m.natAbs).length c, .int .i64 v] := hw 0 (by kernel_rfl)
      obtain ⟨A', c', e1, hd⟩ := hw 2 (by kernel_rfl)
      have e1 : a.tmps.getD 10 undef = _ := e1
      clear hw hF
      simp only [Oper.wp, execOp]
      go_simp
      refine (tadd ((L1.out.step hb).get (A := A) (c := c) (xs := digs m.natAbs) (by simp)) hd lx.out LU.out HR1.out RU.out (t32_live HT.out (L1.out.step hb)) HS.out HQ.out).mono ?_
      rintro e y ⟨A2, c2, rfl, hd2, hbb⟩
      exact hK _ y ⟨A2, c2, rfl, hd2⟩ hbb
    · simp only [wpOp, gAy, gSy, gZy, Region.wanted, if_true]
      refine Or.inl ?_
      obtain ⟨A', c', e0, hd⟩ := hw 3 (by kernel_rfl)
      have e0 : a.eval (.tmp 11) = _ := e0
      clear hw hF
      simp only [Oper.wp, execOp]
      rw [e0]
      go_simp
      exact hK _ x ⟨A', c', rfl, hd⟩ (Below.refl _ _)
    · simp only [wpOp, gAy, gSy, gZy, Region.wanted, if_true]
      refine Or.inl ?_
      obtain ⟨A', c', e0, hd⟩ := hw 4 (by kernel_rfl)
      have e0 : a.eval (.tmp 7) = _ := e0
      clear hw hF
      simp only [Oper.wp, execOp]
      rw [e0]
      go_simp
      exact hK _ x ⟨A', c', rfl, hd⟩ (Below.refl _ _)
    · simp only [wpOp, gAy, gSy, gZy, Region.wanted, if_true]
      refine Or.inl ?_
      clear hw hF
      simp only [Oper.wp, execOp]
      go_simp
      exact hK _ _ ⟨_, rfl, heap_alloc_new _ _, hb.size⟩ (below1 _ _)
  · intro a x hF0 hb hR
    have hF : Fr6 [13, 8, 9, 10, 11, 7, 12, 5] _ a := hF0
    have e0 : a.tmps.getD 8 undef = .agg #[.bool (decide (m < 0)), .slice A (digs m.natAbs).length c, .int .i64 v] := hR 0 (by decide)
    have e1 : a.tmps.getD 9 undef = .int .i64 W := hR 1 (by decide)
    obtain ⟨B2, d2, h2, hd2⟩ := hR 2 (by decide)
    have e2 : a.tmps.getD 10 undef = _ := h2
    obtain ⟨B3, d3, h3, hd3⟩ := hR 3 (by decide)
    have e3 : a.tmps.getD 11 undef = _ := h3
    obtain ⟨B4, d4, h4, hd4⟩ := hR 4 (by decide)
    have e4 : a.tmps.getD 7 undef = _ := h4
    obtain ⟨B5, d5, h5, hd5⟩ := hR 5 (by decide)
    have e5 : a.tmps.getD 12 undef = _ := h5
    obtain ⟨g7, h7, hg7, hge7⟩ := hR 7 (by decide)
    have e7 : a.tmps.getD 5 undef = _ := h7
    refine ⟨⟨?_, ?_⟩, fun hx => ?_⟩
    · rw [hF.fold (by kernel_rfl)]
      simp only [List.foldl_cons, List.foldl_nil, e0, e1, e2, e3, e4, e5, e7]
      generalize a.tmps.getD 13 undef = vx at *
      simp only [Act.put, List.setIfInBounds_toArray, List.set_cons_zero, List.set_cons_succ]
      clear e0 e1 e2 e3 e4 e5 e7 hR hF hF0 h2 h3 h4 h5 h7
      obtain ⟨w2, hW⟩ : ∃ W : World, W = x := ⟨_, rfl⟩
      rw [← hW]
      rw [← hW] at hb hd2 hd3 hd4 hd5 hg7
      have L2 := qH (((((L1.out.step hb).add hd2).add hd3).add hd4).add hd5)
      have Rx_2 := co Rx_1 hb
      have Rr_2 := co Rr_1 hb
      have Rq7_2 := qH hg7
      have Gq7 : w.heap.size ≤ g7 := Nat.le_trans L1.out.1.size hge7
      have Nxq7 : w.heap.size < g7 := by have := heap_lt Rx_1.out; omega
      have Nrq7 : w.heap.size + 1 < g7 := by have := heap_lt Rr_1.out; omega
      clear hW hb hd2 hd3 hd4 hd5 hg7 hge7
      obtain ⟨fq70, zq70, fq71, zq71, fq72, zq72, xq7⟩ := ly3 Rq7_2.out
      simp only [wpOps_cons]
      simp only [wpOp, gAy, gSy, gZy, Region.wanted, if_true]
      refine Or.inl ?_
      simp only [Oper.wp, execOp]
      go_simp
      simp only [wpOps_cons]
      simp only [wpOp, gAy, gSy, gZy, Region.wanted, if_true]
      refine Or.inl ?_
      simp only [Oper.wp, execOp]
      go_simp
      simp only [wpOps_cons]
      simp only [wpOp, gAy, gSy, gZy, Region.wanted, if_true]
      refine Or.inl ?_
      simp only [Oper.wp, execOp]
      go_simp
      try simp only [wpOps]
      clear fq70 zq70 fq71 zq71 fq72 zq72 xq7
      obtain ⟨w3, hW⟩ : ∃ W : World, W = (((w2.setCell ⟨g7, 0, none⟩ (.bool (decide (K < 0)))).setCell ⟨g7, 1, none⟩ (.slice B5 (digs K.natAbs).length d5)).setCell ⟨g7, 2, none⟩ (.int .i64 F)) := ⟨_, rfl⟩
      rw [← hW]
      have hO : Only (g7) w2 w3 := by rw [hW]; exact ((((Only.refl (g7) w2).setCell 0 _).setCell 1 _).setCell 2 _)
      have L3 := qH (live_only L2.out hO Rq7_2.out noint_dy Gq7)
      have Rx_3 := qH ((hO.block _ (by omega)).trans Rx_2.out)
      have Rr_3 := qH ((hO.block _ (by omega)).trans Rr_2.out)
      have Rq7_3 := qH (show w3.heap[g7]? = some (.cells #[.bool (decide (K < 0)), .slice B5 (digs K.natAbs).length d5, .int .i64 F] 26 (0, 0)) by rw [hW]; exact (heap_setCell_same _ _ 2 _ _ _ (heap_setCell_same _ _ 1 _ _ _ (heap_setCell_same _ _ 0 _ _ _ Rq7_2.out))))
      clear hW hO
      obtain ⟨fr0, zr0, fr1, zr1, fr2, zr2, xr⟩ := ly3 Rr_3.out
      obtain ⟨fq70, zq70, fq71, zq71, fq72, zq72, xq7⟩ := ly3 Rq7_3.out
      go_wp2
      refine bodyPost_ret (v := .agg #[.bool (decide (K < 0)), .slice B5 (digs K.natAbs).length d5, .int .i64 F]) (by simp [results, Tryz.results30, go_sem, fr0, fr1, fr2, fq70, fq71, fq72]) rfl ?_
      refine ⟨B5, d5, rfl, ?_, ?_⟩
      · exact (fin3 L3.out Rr_3.out noint3 Gr).get (A := B5) (c := d5) (xs := digs K.natAbs) (by simp)
      · exact (fin3 L3.out Rr_3.out noint3 Gr).1
    · rw [hF.fold (by kernel_rfl)]
      simp only [List.foldl_cons, List.foldl_nil, e0, e1, e2, e3, e4, e5, e7]
      generalize a.tmps.getD 13 undef = vx at *
      simp only [Act.put, List.setIfInBounds_toArray, List.set_cons_zero, List.set_cons_succ]
      clear e0 e1 e2 e3 e4 e5 e7 hR hF hF0 h2 h3 h4 h5 h7
      obtain ⟨w2, hW⟩ : ∃ W : World, W = x := ⟨_, rfl⟩
      rw [← hW]
      rw [← hW] at hb hd2 hd3 hd4 hd5 hg7
      have L2 := qH (((((L1.out.step hb).add hd2).add hd3).add hd4).add hd5)
      have Rx_2 := co Rx_1 hb
      have Rr_2 := co Rr_1 hb
      have Rq7_2 := qH hg7
      have Gq7 : w.heap.size ≤ g7 := Nat.le_trans L1.out.1.size hge7
      have Nxq7 : w.heap.size < g7 := by have := heap_lt Rx_1.out; omega
      have Nrq7 : w.heap.size + 1 < g7 := by have := heap_lt Rr_1.out; omega
      clear hW hb hd2 hd3 hd4 hd5 hg7 hge7
      obtain ⟨fq70, zq70, fq71, zq71, fq72, zq72, xq7⟩ := ly3 Rq7_2.out
      simp only [wpOps_cons]
      simp only [wpOp, gAy, gSy, gZy, Region.wanted, if_true]
      refine Or.inl ?_
      simp only [Oper.wp, execOp]
      go_simp
      simp only [wpOps_cons]
      simp only [wpOp, gAy, gSy, gZy, Region.wanted, if_true]
      refine Or.inl ?_
      simp only [Oper.wp, execOp]
      go_simp
      simp only [wpOps_cons]
      simp only [wpOp, gAy, gSy, gZy, Region.wanted, if_true]
      refine Or.inl ?_
      simp only [Oper.wp, execOp]
      go_simp
      try simp only [wpOps]
      clear fq70 zq70 fq71 zq71 fq72 zq72 xq7
      obtain ⟨w3, hW⟩ : ∃ W : World, W = (((w2.setCell ⟨g7, 0, none⟩ (.bool (decide (K < 0)))).setCell ⟨g7, 1, none⟩ (.slice B5 (digs K.natAbs).length d5)).setCell ⟨g7, 2, none⟩ (.int .i64 F)) := ⟨_, rfl⟩
      rw [← hW]
      have hO : Only (g7) w2 w3 := by rw [hW]; exact ((((Only.refl (g7) w2).setCell 0 _).setCell 1 _).setCell 2 _)
      have L3 := qH (live_only L2.out hO Rq7_2.out noint_dy Gq7)
      have Rx_3 := qH ((hO.block _ (by omega)).trans Rx_2.out)
      have Rr_3 := qH ((hO.block _ (by omega)).trans Rr_2.out)
      have Rq7_3 := qH (show w3.heap[g7]? = some (.cells #[.bool (decide (K < 0)), .slice B5 (digs K.natAbs).length d5, .int .i64 F] 26 (0, 0)) by rw [hW]; exact (heap_setCell_same _ _ 2 _ _ _ (heap_setCell_same _ _ 1 _ _ _ (heap_setCell_same _ _ 0 _ _ _ Rq7_2.out))))
      clear hW hO
      obtain ⟨fr0, zr0, fr1, zr1, fr2, zr2, xr⟩ := ly3 Rr_3.out
      obtain ⟨fq70, zq70, fq71, zq71, fq72, zq72, xq7⟩ := ly3 Rq7_3.out
      go_wp2
      refine bodyPost_ret (v := .agg #[.bool (decide (K < 0)), .slice B5 (digs K.natAbs).length d5, .int .i64 F]) (by simp [results, Tryz.results30, go_sem, fr0, fr1, fr2, fq70, fq71, fq72]) rfl ?_
      refine ⟨B5, d5, rfl, ?_, ?_⟩
      · exact (fin3 L3.out Rr_3.out noint3 Gr).get (A := B5) (c := d5) (xs := digs K.natAbs) (by simp)
      · exact (fin3 L3.out Rr_3.out noint3 Gr).1
    · have e6 : a.tmps.getD 13 undef = .int .i64 V := hx
      rw [hF.fold (by kernel_rfl)]
      simp only [List.foldl_cons, List.foldl_nil, e0, e1, e2, e3, e4, e5, e7, e6]
      simp only [Act.put, List.setIfInBounds_toArray, List.set_cons_zero, List.set_cons_succ]
      clear e0 e1 e2 e3 e4 e5 e7 e6 hR hF hF0 h2 h3 h4 h5 h7 hx
      obtain ⟨w2, hW⟩ : ∃ W : World, W = x := ⟨_, rfl⟩
      rw [← hW]
      rw [← hW] at hb hd2 hd3 hd4 hd5 hg7
      have L2 := qH (((((L1.out.step hb).add hd2).add hd3).add hd4).add hd5)
      have Rx_2 := co Rx_1 hb
      have Rr_2 := co Rr_1 hb
      have Rq7_2 := qH hg7
      have Gq7 : w.heap.size ≤ g7 := Nat.le_trans L1.out.1.size hge7
      have Nxq7 : w.heap.size < g7 := by have := heap_lt Rx_1.out; omega
      have Nrq7 : w.heap.size + 1 < g7 := by have := heap_lt Rr_1.out; omega
      clear hW hb hd2 hd3 hd4 hd5 hg7 hge7
      obtain ⟨fq70, zq70, fq71, zq71, fq72, zq72, xq7⟩ := ly3 Rq7_2.out
      simp only [wpOps_cons]
      simp only [wpOp, gAy, gSy, gZy, Region.wanted, if_true]
      refine Or.inl ?_
      simp only [Oper.wp, execOp]
      go_simp
      simp only [wpOps_cons]
      simp only [wpOp, gAy, gSy, gZy, Region.wanted, if_true]
      refine Or.inl ?_
      simp only [Oper.wp, execOp]
      go_simp
      try simp only [wpOps]
      clear fq70 zq70 fq71 zq71 fq72 zq72 xq7
      obtain ⟨w3, hW⟩ : ∃ W : World, W = (((w2.setCell ⟨g7, 0, none⟩ (.bool (decide (K < 0)))).setCell ⟨g7, 1, none⟩ (.slice B5 (digs K.natAbs).length d5)).setCell ⟨g7, 2, none⟩ (.int .i64 F)) := ⟨_, rfl⟩
      rw [← hW]
      have hO : Only (g7) w2 w3 := by rw [hW]; exact ((((Only.refl (g7) w2).setCell 0 _).setCell 1 _).setCell 2 _)
      have L3 := qH (live_only L2.out hO Rq7_2.out noint_dy Gq7)
      have Rx_3 := qH ((hO.block _ (by omega)).trans Rx_2.out)
      have Rr_3 := qH ((hO.block _ (by omega)).trans Rr_2.out)
      have Rq7_3 := qH (show w3.heap[g7]? = some (.cells #[.bool (decide (K < 0)), .slice B5 (digs K.natAbs).length d5, .int .i64 F] 26 (0, 0)) by rw [hW]; exact (heap_setCell_same _ _ 2 _ _ _ (heap_setCell_same _ _ 1 _ _ _ (heap_setCell_same _ _ 0 _ _ _ Rq7_2.out))))
      clear hW hO
      obtain ⟨fr0, zr0, fr1, zr1, fr2, zr2, xr⟩ := ly3 Rr_3.out
      obtain ⟨fq70, zq70, fq71, zq71, fq72, zq72, xq7⟩ := ly3 Rq7_3.out
      go_wp2
      refine bodyPost_ret (v := .agg #[.bool (decide (K < 0)), .slice B5 (digs K.natAbs).length d5, .int .i64 F]) (by simp [results, Tryz.results30, go_sem, fr0, fr1, fr2, fq70, fq71, fq72]) rfl ?_
      refine ⟨B5, d5, rfl, ?_, ?_⟩
      · exact (fin3 L3.out Rr_3.out noint3 Gr).get (A := B5) (c := d5) (xs := digs K.natAbs) (by simp)
      · exact (fin3 L3.out Rr_3.out noint3 Gr).1
end Go.Proofs.YtdmfapgclppmhaaGreatDoor
end
section
namespace Go.Proofs.YtdmfapgclppmhaaGreatDoor
open Go.RowKit
section
variable {w0 w w' : World} {L : List (Option Addr × Nat × List Nat)} {A B : Option Addr} {c d n m : Nat} {xs ys : List Nat} {x y : Nat}
end
end Go.Proofs.YtdmfapgclppmhaaGreatDoor
end
section
namespace Go.Proofs.YtdmfapgclppmhaaGreatDoor
end Go.Proofs.YtdmfapgclppmhaaGreatDoor
end
section
namespace Go.Proofs.YtdmfapgclppmhaaGreatDoor
open Go.RowKit
end Go.Proofs.YtdmfapgclppmhaaGreatDoor
end
section
namespace Go.Proofs.YtdmfapgclppmhaaGreatDoor
open Go.RowKit
section
variable {w0 w w' : World} {L : List (Option Addr × Nat × List Nat)} {A : Option Addr} {c n : Nat} {xs : List Nat} {x : Nat}
end
end Go.Proofs.YtdmfapgclppmhaaGreatDoor
end
section
namespace Go.Proofs.YtdmfapgclppmhaaGreatDoor
open Go.RowKit
end Go.Proofs.YtdmfapgclppmhaaGreatDoor
end
section
namespace Go.Proofs.YtdmfapgclppmhaaGreatDoor
def Bd (L H M E : Int) : Prop := Nf M E ∧ (M = 0 ∨ (L ≤ E ∧ E + bl M ≤ H))
theorem bl_pos {M : Int} (h : M ≠ 0) : 0 < bl M := by
  have := (blen_bd M.natAbs (by omega)).2.2
  unfold bl; omega
theorem Bd.inR {L H M E : Int} (h : Bd L H M E) (hL : -65536 ≤ L) (hH : H ≤ 65536) : inR M E = true := by
  unfold Go.Proofs.YtdmfapgclppmhaaGreatDoor.inR
  rw [decide_eq_true_eq]
  rcases h.2 with h0 | ⟨a, b⟩
  · exact .inl h0
  · by_cases hm : M = 0
    · exact .inl hm
    · have := bl_pos hm
      right; omega
theorem Bd.mono {L H L' H' M E : Int} (h : Bd L H M E) (hL : L' ≤ L) (hH : H ≤ H') : Bd L' H' M E := by
  refine ⟨h.1, ?_⟩
  rcases h.2 with h0 | ⟨a, b⟩
  · exact .inl h0
  · exact .inr ⟨by omega, by omega⟩
theorem Bd.of {m e L H : Int} (hL : L ≤ e) (hH : e + bl m ≤ H) {M E : Int} (h : IsD (dv m e) M E) : Bd L H M E := by
  obtain ⟨rfl, rfl⟩ := h.of
  refine ⟨nf_n m e, ?_⟩
  by_cases h0 : m = 0
  · left; rw [h0]; rfl
  · right
    have := bl_nm m e
    rw [if_neg h0] at this
    have h3 : nx m e = e + tz m.natAbs := by unfold nx; rw [if_neg h0]
    omega
theorem abs_le_size {L H M E : Int} (h : Bd L H M E) : (dv M E).abs ≤ 2 ^ H := by
  by_cases h0 : M = 0
  · rw [h0, dv_zero, Rat.abs_zero]; exact Rat.le_of_lt (zpow_pos _)
  · rcases h.2 with h1 | ⟨_, b⟩
    · exact absurd h1 h0
    · exact Rat.le_of_lt (rlt_le (sz_dv h0).2 (zpow_le.2 b))
theorem Bd.add {L H m x n y M E : Int} (h : Bd L H m x) (h' : Bd L H n y) (hs : IsD (dv m x + dv n y) M E) : Bd L (H + 1) M E := by
  by_cases hm : m = 0
  · rw [hm, dv_zero, Rat.zero_add] at hs
    obtain ⟨rfl, rfl⟩ := hs.uniq ⟨h'.1, rfl⟩
    exact h'.mono (by omega) (by omega)
  · by_cases hn : n = 0
    · rw [hn, dv_zero, Rat.add_zero] at hs
      obtain ⟨rfl, rfl⟩ := hs.uniq ⟨h.1, rfl⟩
      exact h.mono (by omega) (by omega)
    · have a := h.2.resolve_left hm
      have b := h'.2.resolve_left hn
      refine ⟨hs.1, ?_⟩
      by_cases hM : M = 0
      · exact .inl hM
      · right
        have hsum := sum_upto m x n y
        rw [← hsum] at hs
        obtain ⟨e1, e2⟩ := hs.of
        have hz : upto m x (min x y) + upto n y (min x y) ≠ 0 := by
          intro e; rw [e] at e1; exact hM (by rw [← e1]; rfl)
        refine ⟨?_, ?_⟩
        · rw [← e2]; unfold nx; rw [if_neg hz]; omega
        · have h2 := abs_le_size h
          have h3 := abs_le_size h'
          have h4 : (dv M E).abs < 2 ^ (H + 1) := by
            rw [hs.2, hsum]
            have s1 := (sz_dv (e := x) hm).2
            have s2 := (sz_dv (e := y) hn).2
            have s3 := zpow_le.2 a.2
            have s4 := zpow_le.2 b.2
            have s5 : (2 : Rat) ^ (H + 1) = 2 ^ H * 2 := by rw [zpow_add2, Rat.zpow_one]
            generalize dv m x = p at *
            generalize dv n y = q at *
            have t1 : (p + q).abs ≤ p.abs + q.abs := by
              rcases (Rat.le_total : 0 ≤ p ∨ p ≤ 0) with hp | hp <;> rcases (Rat.le_total : 0 ≤ q ∨ q ≤ 0) with hq | hq <;> rcases (Rat.le_total : 0 ≤ p + q ∨ p + q ≤ 0) with hr | hr <;>
                (first | rw [Rat.abs_of_nonneg hp] | rw [Rat.abs_of_nonpos hp]) <;> (first | rw [Rat.abs_of_nonneg hq] | rw [Rat.abs_of_nonpos hq]) <;> (first | rw [Rat.abs_of_nonneg hr] | rw [Rat.abs_of_nonpos hr]) <;> grind
            grind
          have h5 := zpow_lt.1 (rle_lt (sz_dv (e := E) hM).1 h4)
          omega
theorem rd_bd {L H M E : Int} {r : Rat} {p : Nat} {up : Bool} (h1 : 1 ≤ p) (h : RdOf r p up M E) (hr : r = 0 ∨ (2 ^ L ≤ r.abs ∧ r.abs < 2 ^ H)) : Bd (L - p) (H + 1) M E := by
  obtain ⟨n, ⟨_, h0⟩ | ⟨s, t, hs, ht, hv⟩⟩ := h
  · exact ⟨n, .inl h0⟩
  · rcases hr with h0 | ⟨hlo, hhi⟩
    · exact absurd h0 hs.ne
    · have x1 := zpow_lt.1 (rle_lt hlo hs.2)
      have x2 := zpow_lt.1 (rle_lt hs.1 hhi)
      have ⟨c1, c2⟩ := rn_abs hs ht
      have hbt : bl t ≤ p + 1 := by
        unfold bl; exact blen_le (Nat.lt_of_le_of_lt c1 (Nat.pow_lt_pow_right (by omega) (by omega)))
      exact Bd.of (m := t) (e := s) (by omega) (by omega) ⟨n, hv⟩
theorem Bd.round {L H m x M E : Int} {p : Nat} {up : Bool} (h1 : 1 ≤ p) (h : Bd L H m x) (hr : RdOf (dv m x) p up M E) : Bd (L - p) (H + 1) M E := by
  refine rd_bd h1 hr ?_
  by_cases hm : m = 0
  · left; rw [hm, dv_zero]
  · right
    have a := h.2.resolve_left hm
    have ⟨s1, s2⟩ := sz_dv (e := x) hm
    have := bl_pos hm
    exact ⟨Rat.le_trans (zpow_le.2 (by omega)) s1, rlt_le s2 (zpow_le.2 a.2)⟩
end Go.Proofs.YtdmfapgclppmhaaGreatDoor
end
section
namespace Go.Proofs.YtdmfapgclppmhaaGreatDoor
open Go.RowKit
theorem Bd.size {L H m x : Int} (h : Bd L H m x) (m0 : m ≠ 0) : 2 ^ L ≤ (dv m x).abs ∧ (dv m x).abs < 2 ^ H := by
  have a := h.2.resolve_left m0
  have ⟨s1, s2⟩ := sz_dv (e := x) m0
  have := bl_pos m0
  exact ⟨Rat.le_trans (zpow_le.2 (by omega)) s1, rlt_le s2 (zpow_le.2 a.2)⟩
theorem RsOf.ge {X : Rat} {p : Nat} {M E : Int} (h : RsOf X p true M E) : X ≤ dv M E * dv M E := by
  rcases h.2 with ⟨h1, h0⟩ | ⟨s, t, ht, _, h3, h4, hv⟩
  · rw [h0, dv_zero, h1]; grind
  · rw [hv]
    by_cases he : dv t s * dv t s = X
    · simp [he]
    · simp [he]; exact Rat.le_of_lt h4
theorem rsq_pow (k : Int) : (2 : Rat) ^ k * 2 ^ k = 2 ^ (2 * k) := by rw [← zpow_add2]; congr 1; omega
theorem Bd.root {L H m x M E : Int} {p : Nat} {up : Bool} (h1 : 1 ≤ p) (h : Bd L H m x) (hr : RsOf (dv m x) p up M E) (hL : L ≤ 0) (hH : 0 ≤ H) : Bd (L - p) (H + 3) M E := by
  refine ⟨hr.1, ?_⟩
  rcases hr.2 with ⟨_, h0⟩ | ⟨s, t, ht1, ht2, h3, h4, hv⟩
  · exact .inl h0
  · by_cases hM : M = 0
    · exact .inl hM
    · have hp1 : (2 : Int) ^ p = 2 ^ (p - 1) * 2 := by rw [← Int.pow_succ]; congr 1; omega
      have hpp : (0 : Int) < 2 ^ (p - 1) := Int.pow_pos (by omega)
      have hm : m ≠ 0 := by
        rintro rfl
        rw [dv_zero] at h3
        have : 0 < dv t s := dv_pos.2 (by omega)
        have := Rat.mul_pos this this
        grind
      have hb := h.size hm
      have hx : 0 ≤ dv m x := by
        refine Rat.le_trans ?_ h3
        have : 0 ≤ dv t s := dv_nonneg.2 (by omega)
        exact Rat.mul_nonneg this this
      rw [Rat.abs_of_nonneg hx] at hb
      -- the root's least bit
      have c1 : (2 : Rat) ^ (s + (p - 1 : Nat)) ≤ dv t s := by
        rw [← dv_two]; exact dv_le.2 (by exact_mod_cast ht1)
      have c2 : dv (t + 1) s ≤ 2 ^ (s + (p : Nat)) := by
        rw [← dv_two]; exact dv_le.2 (by have : t < 2 ^ p := by exact_mod_cast ht2
                                         exact_mod_cast this)
      have d1 : (2 : Rat) ^ (2 * (s + (p - 1 : Nat))) < 2 ^ H := by
        rw [← rsq_pow]
        exact rle_lt (Rat.le_trans (rsq_le (Rat.le_of_lt (zpow_pos _)) c1) h3) hb.2
      have d2 : (2 : Rat) ^ L < 2 ^ (2 * (s + (p : Nat))) := by
        rw [← rsq_pow]
        refine rle_lt hb.1 (rlt_le h4 (rsq_le (dv_nonneg.2 (by omega)) c2))
      have e1 := zpow_lt.1 d1
      have e2 := zpow_lt.1 d2
      have hT : (t + (if up && decide (dv t s * dv t s ≠ dv m x) then 1 else 0)).natAbs ≤ 2 ^ p := by
        have : (2 : Int) ^ p = ((2 ^ p : Nat) : Int) := by push_cast; rfl
        split <;> omega
      have hbt : bl (t + (if up && decide (dv t s * dv t s ≠ dv m x) then 1 else 0)) ≤ p + 1 := by
        unfold bl; exact blen_le (Nat.lt_of_le_of_lt hT (Nat.pow_lt_pow_right (by omega) (by omega)))
      have := (Bd.of (m := t + (if up && decide (dv t s * dv t s ≠ dv m x) then 1 else 0)) (e := s) (L := L - p) (H := H + 3) (by omega) (by omega) (M := M) (E := E) ⟨hr.1, hv⟩)
      exact this.2
theorem dcmp0 {A : Option Addr} {c : Nat} {m x q : Int} {w : World} (h : Dg w A c (digs m.natAbs)) (hl : (digs m.natAbs).length ≤ 400000) (r1 : Rt m x) (hq : cmpd (dv m x) 0 = q) :
    Calls Tryz.prog 29 #[.agg #[.bool (decide (m < 0)), .slice A (digs m.natAbs).length c, .int .i64 x], .agg #[.bool false, .slice none 0 0, .int .i64 0]] w fun e w' => e = .returned (.int .i64 q) ∧ Below w.heap.size w w' := by
  have e : digs (0 : Int).natAbs = [] := digs_zero
  have := dcmp_any (n := 0) (y := 0) (B := none) (d := 0) h (by rw [e]; exact Dg.nil_ _ _) hl (by rw [e]; simp) r1 ⟨.inl ⟨rfl, rfl⟩, by omega, by omega⟩ (q := q) (by rw [dv_zero]; exact hq)
  rw [e] at this
  exact this
def NsW (w : World) (P : Option Addr) (n c : Nat) (S : Nat → Bool) (A : Nat → Option Addr) (C : Nat → Nat) (X : Nat → List Nat) (E : Nat → Int) : Prop :=
  n ≤ c ∧ (n ≠ 0 → ∃ b o, P = some ⟨b, o, none⟩ ∧ b < w.heap.size ∧ DyRowO w b o n S A C X E)
theorem DyRowO.below {w0 w w' : World} {b o n : Nat} {S : Nat → Bool} {A : Nat → Option Addr} {C : Nat → Nat} {X : Nat → List Nat} {E : Nat → Int} (h : DyRowO w b o n S A C X E) (hb : b < w.heap.size) (hB : Below w.heap.size w w') : DyRowO w' b o n S A C X E := fun i hi =>
  have ⟨a, e, d, g⟩ := h i hi
  ⟨(hB.cell (p := ⟨b, o + i * 3, none⟩) hb).trans a, (hB.cell (p := ⟨b, o + i * 3 + 1, none⟩) hb).trans e, (hB.cell (p := ⟨b, o + i * 3 + 2, none⟩) hb).trans d, g.below hB⟩
theorem NsW.below {w w' : World} {P : Option Addr} {n c : Nat} {S : Nat → Bool} {A : Nat → Option Addr} {C : Nat → Nat} {X : Nat → List Nat} {E : Nat → Int} (h : NsW w P n c S A C X E) (hB : Below w.heap.size w w') : NsW w' P n c S A C X E :=
  ⟨h.1, fun hn => have ⟨b, o, e, hb, hr⟩ := h.2 hn; ⟨b, o, e, Nat.lt_of_lt_of_le hb hB.size, DyRowO.below (w0 := w) hr hb hB⟩⟩
theorem short_s {P : Option Addr} {n c : Nat} {S : Nat → Bool} {A : Nat → Option Addr} {C : Nat → Nat} {X : Nat → List Nat} {E : Nat → Int} {R : Nat → Bool} {q : Bool} {w : World} (h : NsW w P n c S A C X E) (n0 : n ≠ 0) (hR : ∀ i, i < n → mayB (S i) (X i) (E i) = R i) (hX : ∀ i, i < n → (X i).length ≤ 10000) (hn : n ≤ 1000000) (hq : allB R n = q) :
    Calls Tryz.prog 55 #[.slice P n c] w fun e w' => e = .returned (.bool q) ∧ Below w.heap.size w w' := by
  obtain ⟨b, o, rfl, hb, hr⟩ := h.2 n0
  rw [← hq]
  exact shortN_any b o n c S A C X E R w hb hr hR hX hn h.1
theorem short_2 {g : Nat} {A B : Option Addr} {c d : Nat} {s r : Bool} {xs ys : List Nat} {x y : Int} {q : Bool} {w : World} (hR : w.heap[g]? = some (.cells #[.bool s, .slice A xs.length c, .int .i64 x, .bool r, .slice B ys.length d, .int .i64 y] 26 (0, 0))) (h : Dg w A c xs) (h' : Dg w B d ys) (hl : xs.length ≤ 10000) (hl' : ys.length ≤ 10000) (hq : (mayB s xs x && mayB r ys y) = q) :
    Calls Tryz.prog 55 #[.slice (some ⟨g, 0, none⟩) 2 2] w fun e w' => e = .returned (.bool q) ∧ Below w.heap.size w w' := by
  have key := shortN_any g 0 2 2 (fun i => if i = 0 then s else r) (fun i => if i = 0 then A else B) (fun i => if i = 0 then c else d) (fun i => if i = 0 then xs else ys) (fun i => if i = 0 then x else y) (fun i => if i = 0 then mayB s xs x else mayB r ys y) w (heap_lt hR)
    (fun i hi => by
      rcases i with _ | _ | i
      · exact ⟨row_c (i := 0) hR rfl, row_c (i := 1) hR rfl, row_c (i := 2) hR rfl, h⟩
      · exact ⟨row_c (i := 3) hR rfl, row_c (i := 4) hR rfl, row_c (i := 5) hR rfl, h'⟩
      · omega)
    (fun i hi => by rcases i with _ | _ | i; rfl; rfl; omega) (fun i hi => by rcases i with _ | _ | i; exact hl; exact hl'; omega) (by omega) (by omega)
  have e : allB (fun i => if i = 0 then mayB s xs x else mayB r ys y) 2 = q := by rw [← hq]; simp [allB]
  rw [e] at key; exact key
theorem below0_n (A : Option Addr) (c : Nat) (m x : Int) (w : World) (h : Dg w A c (digs m.natAbs)) (hl : (digs m.natAbs).length ≤ 10000) (r1 : Rt m x) {q : Bool} (hq : decide (m < 0) = q):
    Calls Tryz.prog 56 #[.agg #[.bool (decide (m < 0)), .slice A (digs m.natAbs).length c, .int .i64 x]] w fun e w' => e = .returned (.bool q) ∧ Below w.heap.size w w' := by
  have lx := qH hl
  have HR := qH r1
  obtain ⟨j, hj⟩ : ∃ j, cmpd (dv m x) 0 = j := ⟨_, rfl⟩
  have HJ := qH hj
  have hd : decide (j < 0) = q := by rw [← hq, ← hj, decide_eq_decide, cmpd_lt', dv_neg0]
  have L0 := qH ((live_start w).add h)
  clear h hl r1 hj hq
  go_enter Tryz.func56, Tryz.ntmps56
  go_upto_region 1 with fail
  obtain ⟨v1, hW, hb, Rx_1⟩ := new1 w (.cells #[.bool (decide (m < 0)), .slice A (digs m.natAbs).length c, .int .i64 x] 26)
  rw [← hW]
  have L1 := ls L0 hb
  have Gx := gl0 L0.out
  clear hW hb
  obtain ⟨fx0, zx0, fx1, zx1, fx2, zx2, xx⟩ := ly3 Rx_1.out
  go_wp2_with fail
  refine (dcmp0 (L1.out.get (A := A) (c := c) (xs := digs m.natAbs) (by simp)) (Nat.le_trans lx.out (by omega)) HR.out HJ.out).mono ?_
  rintro e w2 ⟨rfl, hb⟩
  have L2 := ls L1 hb
  clear fx0 zx0 fx1 zx1 fx2 zx2 xx
  have Rx_2 := co Rx_1 hb
  clear hb 
  go_wp2
  go_ret
  exact ⟨rfl, L2.out.1⟩
theorem piece_0 (A B P : Option Addr) (c d n k : Nat) (s r : Bool) (xs ys : List Nat) (x y W D : Int) (S : Nat → Bool) (AA : Nat → Option Addr) (CC : Nat → Nat) (X : Nat → List Nat) (E : Nat → Int) (w : World) (h : Dg w A c xs) (h' : Dg w B d ys) (hl : xs.length ≤ 10000) (hl' : ys.length ≤ 10000) (hns : NsW w P n k S AA CC X E) (hw : (decide (-30 ≤ W) && decide (W ≤ 10)) = false):
    Calls Tryz.prog 28 #[.agg #[.bool s, .slice A xs.length c, .int .i64 x, .int .i64 W, .slice P n k, .bool r, .slice B ys.length d, .int .i64 y], .int .i64 D] w fun e w' => e = .returned (.bool (false)) ∧ Below w.heap.size w w' := by
  have lx := qH hl
  have ly := qH hl'
  have HNS := qH hns
  have HW := qH hw
  have L0 := qH (((live_start w).add h).add h')
  clear h h' hl hl' hns hw
  go_enter Tryz.func28, Tryz.ntmps28
  go_wp2_with fail
  obtain ⟨v1, hW, hb, Rp_1⟩ := new1 w (.cells #[.bool s, .slice A xs.length c, .int .i64 x, .int .i64 W, .slice P n k, .bool r, .slice B ys.length d, .int .i64 y] 49)
  rw [← hW]
  have L1 := ls L0 hb
  have Gp := gl0 L0.out
  clear hW hb
  refine (within_any W (-30) 10 _ HW.out).mono ?_
  rintro e w2 ⟨rfl, rfl⟩
  obtain ⟨fp0, zp0, fp1, zp1, fp2, zp2, fp3, zp3, fp4, zp4, fp5, zp5, fp6, zp6, fp7, zp7, xp⟩ := ly8z Rp_1.out
  go_wp2
  go_ret
  exact ⟨rfl, L1.out.1⟩
theorem piece_1 (A B P : Option Addr) (c d n k : Nat) (s r : Bool) (xs ys : List Nat) (x y W D : Int) (S : Nat → Bool) (AA : Nat → Option Addr) (CC : Nat → Nat) (X : Nat → List Nat) (E : Nat → Int) (w : World) (h : Dg w A c xs) (h' : Dg w B d ys) (hl : xs.length ≤ 10000) (hl' : ys.length ≤ 10000) (hns : NsW w P n k S AA CC X E) (hw : (decide (-30 ≤ W) && decide (W ≤ 10)) = true) (d0 : 0 ≤ D) (d1 : D ≤ 1000) (hn : ((n : Nat) : Int) ≠ D + 1):
    Calls Tryz.prog 28 #[.agg #[.bool s, .slice A xs.length c, .int .i64 x, .int .i64 W, .slice P n k, .bool r, .slice B ys.length d, .int .i64 y], .int .i64 D] w fun e w' => e = .returned (.bool (false)) ∧ Below w.heap.size w w' := by
  have lx := qH hl
  have ly := qH hl'
  have HNS := qH hns
  have HW := qH hw
  have dn : (((n : Nat) : Int) == D + 1) = false := by exact beq_eq_false_iff_ne.2 hn
  have L0 := qH (((live_start w).add h).add h')
  clear h h' hl hl' hns hw hn
  go_enter Tryz.func28, Tryz.ntmps28
  go_wp2_with fail
  obtain ⟨v1, hW, hb, Rp_1⟩ := new1 w (.cells #[.bool s, .slice A xs.length c, .int .i64 x, .int .i64 W, .slice P n k, .bool r, .slice B ys.length d, .int .i64 y] 49)
  rw [← hW]
  have L1 := ls L0 hb
  have Gp := gl0 L0.out
  clear hW hb
  refine (within_any W (-30) 10 _ HW.out).mono ?_
  rintro e w2 ⟨rfl, rfl⟩
  obtain ⟨fp0, zp0, fp1, zp1, fp2, zp2, fp3, zp3, fp4, zp4, fp5, zp5, fp6, zp6, fp7, zp7, xp⟩ := ly8z Rp_1.out
  go_wp2
  go_ret
  exact ⟨rfl, L1.out.1⟩
theorem piece_2 (A B P : Option Addr) (c d n k : Nat) (s r : Bool) (xs ys : List Nat) (x y W D : Int) (S : Nat → Bool) (AA : Nat → Option Addr) (CC : Nat → Nat) (X : Nat → List Nat) (E : Nat → Int) (w : World) (h : Dg w A c xs) (h' : Dg w B d ys) (hl : xs.length ≤ 10000) (hl' : ys.length ≤ 10000) (hns : NsW w P n k S AA CC X E) (hw : (decide (-30 ≤ W) && decide (W ≤ 10)) = true) (d0 : 0 ≤ D) (d1 : D ≤ 1000) (hn : ((n : Nat) : Int) = D + 1) (h2 : (mayB s xs x && mayB r ys y) = false):
    Calls Tryz.prog 28 #[.agg #[.bool s, .slice A xs.length c, .int .i64 x, .int .i64 W, .slice P n k, .bool r, .slice B ys.length d, .int .i64 y], .int .i64 D] w fun e w' => e = .returned (.bool (false)) ∧ Below w.heap.size w w' := by
  have lx := qH hl
  have ly := qH hl'
  have HNS := qH hns
  have HW := qH hw
  have dn : (((n : Nat) : Int) == D + 1) = true := by rw [hn]; simp
  have H2 := qH h2
  have N0 := qH (show n ≠ 0 ∧ n ≤ 1000000 by omega)
  have L0 := qH (((live_start w).add h).add h')
  clear h h' hl hl' hns hw hn h2
  go_enter Tryz.func28, Tryz.ntmps28
  go_wp2_with fail
  obtain ⟨v1, hW, hb, Rp_1⟩ := new1 w (.cells #[.bool s, .slice A xs.length c, .int .i64 x, .int .i64 W, .slice P n k, .bool r, .slice B ys.length d, .int .i64 y] 49)
  rw [← hW]
  have L1 := ls L0 hb
  have Gp := gl0 L0.out
  clear hW hb
  refine (within_any W (-30) 10 _ HW.out).mono ?_
  rintro e w2 ⟨rfl, rfl⟩
  obtain ⟨fp0, zp0, fp1, zp1, fp2, zp2, fp3, zp3, fp4, zp4, fp5, zp5, fp6, zp6, fp7, zp7, xp⟩ := ly8z Rp_1.out
  go_wp2_with fail
  obtain ⟨w3, hW, hb, Rl_3⟩ := new1 v1 (.cells #[.bool s, .slice A xs.length c, .int .i64 x, .bool r, .slice B ys.length d, .int .i64 y] 26)
  rw [← hW]
  have L3 := ls L1 hb
  have Rp_3 := co Rp_1 hb
  have Gl := gl0 L1.out
  have Npl := nl0 Rp_1.out
  clear hW hb
  clear fp0 zp0 fp1 zp1 fp2 zp2 fp3 zp3 fp4 zp4 fp5 zp5 fp6 zp6 fp7 zp7 xp
  refine (short_2 Rl_3.out (L3.out.get (A := A) (c := c) (xs := xs) (by simp)) (L3.out.get (A := B) (c := d) (xs := ys) (by simp)) lx.out ly.out H2.out).mono ?_
  rintro e w4 ⟨rfl, hb⟩
  have L4 := ls L3 hb
  have Rp_4 := co Rp_3 hb
  have Rl_4 := co Rl_3 hb
  clear hb 
  obtain ⟨fp0, zp0, fp1, zp1, fp2, zp2, fp3, zp3, fp4, zp4, fp5, zp5, fp6, zp6, fp7, zp7, xp⟩ := ly8z Rp_4.out
  go_wp2
  go_ret
  exact ⟨rfl, L4.out.1⟩
theorem piece_3 (A B P : Option Addr) (c d n k : Nat) (s r : Bool) (xs ys : List Nat) (x y W D : Int) (S : Nat → Bool) (AA : Nat → Option Addr) (CC : Nat → Nat) (X : Nat → List Nat) (E : Nat → Int) (w : World) (h : Dg w A c xs) (h' : Dg w B d ys) (hl : xs.length ≤ 10000) (hl' : ys.length ≤ 10000) (hns : NsW w P n k S AA CC X E) (hw : (decide (-30 ≤ W) && decide (W ≤ 10)) = true) (d0 : 0 ≤ D) (d1 : D ≤ 1000) (hn : ((n : Nat) : Int) = D + 1) (h2 : (mayB s xs x && mayB r ys y) = true) {R : Nat → Bool} (hR : ∀ i, i < n → mayB (S i) (X i) (E i) = R i) (hX : ∀ i, i < n → (X i).length ≤ 10000) (h3 : allB R n = false):
    Calls Tryz.prog 28 #[.agg #[.bool s, .slice A xs.length c, .int .i64 x, .int .i64 W, .slice P n k, .bool r, .slice B ys.length d, .int .i64 y], .int .i64 D] w fun e w' => e = .returned (.bool (false)) ∧ Below w.heap.size w w' := by
  have lx := qH hl
  have ly := qH hl'
  have HNS := qH hns
  have HW := qH hw
  have dn : (((n : Nat) : Int) == D + 1) = true := by rw [hn]; simp
  have H2 := qH h2
  have N0 := qH (show n ≠ 0 ∧ n ≤ 1000000 by omega)
  have HR := qH hR
  have HX := qH hX
  have H3 := qH h3
  have L0 := qH (((live_start w).add h).add h')
  clear h h' hl hl' hns hw hn h2 hR hX h3
  go_enter Tryz.func28, Tryz.ntmps28
  go_wp2_with fail
  obtain ⟨v1, hW, hb, Rp_1⟩ := new1 w (.cells #[.bool s, .slice A xs.length c, .int .i64 x, .int .i64 W, .slice P n k, .bool r, .slice B ys.length d, .int .i64 y] 49)
  rw [← hW]
  have L1 := ls L0 hb
  have Gp := gl0 L0.out
  clear hW hb
  refine (within_any W (-30) 10 _ HW.out).mono ?_
  rintro e w2 ⟨rfl, rfl⟩
  obtain ⟨fp0, zp0, fp1, zp1, fp2, zp2, fp3, zp3, fp4, zp4, fp5, zp5, fp6, zp6, fp7, zp7, xp⟩ := ly8z Rp_1.out
  go_wp2_with fail
  obtain ⟨w3, hW, hb, Rl_3⟩ := new1 v1 (.cells #[.bool s, .slice A xs.length c, .int .i64 x, .bool r, .slice B ys.length d, .int .i64 y] 26)
  rw [← hW]
  have L3 := ls L1 hb
  have Rp_3 := co Rp_1 hb
  have Gl := gl0 L1.out
  have Npl := nl0 Rp_1.out
  clear hW hb
  clear fp0 zp0 fp1 zp1 fp2 zp2 fp3 zp3 fp4 zp4 fp5 zp5 fp6 zp6 fp7 zp7 xp
  refine (short_2 Rl_3.out (L3.out.get (A := A) (c := c) (xs := xs) (by simp)) (L3.out.get (A := B) (c := d) (xs := ys) (by simp)) lx.out ly.out H2.out).mono ?_
  rintro e w4 ⟨rfl, hb⟩
  have L4 := ls L3 hb
  have Rp_4 := co Rp_3 hb
  have Rl_4 := co Rl_3 hb
  clear hb 
  obtain ⟨fp0, zp0, fp1, zp1, fp2, zp2, fp3, zp3, fp4, zp4, fp5, zp5, fp6, zp6, fp7, zp7, xp⟩ := ly8z Rp_4.out
  go_wp2_with fail
  refine (short_s (HNS.out.below L4.out.1) N0.out.1 HR.out HX.out N0.out.2 H3.out).mono ?_
  rintro e w5 ⟨rfl, hb⟩
  have L5 := ls L4 hb
  clear fp0 zp0 fp1 zp1 fp2 zp2 fp3 zp3 fp4 zp4 fp5 zp5 fp6 zp6 fp7 zp7 xp
  have Rp_5 := co Rp_4 hb
  have Rl_5 := co Rl_4 hb
  clear hb
  obtain ⟨fp0, zp0, fp1, zp1, fp2, zp2, fp3, zp3, fp4, zp4, fp5, zp5, fp6, zp6, fp7, zp7, xp⟩ := ly8z Rp_5.out
  go_wp2
  go_ret
  exact ⟨rfl, L5.out.1⟩
theorem piece_4 (A B P : Option Addr) (c d n k : Nat) (s r : Bool) (xs ys : List Nat) (x y W D : Int) (S : Nat → Bool) (AA : Nat → Option Addr) (CC : Nat → Nat) (X : Nat → List Nat) (E : Nat → Int) (w : World) (h : Dg w A c xs) (h' : Dg w B d ys) (hl : xs.length ≤ 10000) (hl' : ys.length ≤ 10000) (hns : NsW w P n k S AA CC X E) (hw : (decide (-30 ≤ W) && decide (W ≤ 10)) = true) (d0 : 0 ≤ D) (d1 : D ≤ 1000) (hn : ((n : Nat) : Int) = D + 1) (h2 : (mayB s xs x && mayB r ys y) = true) {R : Nat → Bool} (hR : ∀ i, i < n → mayB (S i) (X i) (E i) = R i) (hX : ∀ i, i < n → (X i).length ≤ 10000) (h3 : allB R n = true) {m : Int} (hm : digs m.natAbs = ys) (hs : decide (m < 0) = r) (r2 : Rt m y):
    Calls Tryz.prog 28 #[.agg #[.bool s, .slice A xs.length c, .int .i64 x, .int .i64 W, .slice P n k, .bool r, .slice B ys.length d, .int .i64 y], .int .i64 D] w fun e w' => e = .returned (.bool (!r)) ∧ Below w.heap.size w w' := by
  have lx := qH hl
  have ly := qH hl'
  have HNS := qH hns
  have HW := qH hw
  have dn : (((n : Nat) : Int) == D + 1) = true := by rw [hn]; simp
  have H2 := qH h2
  have N0 := qH (show n ≠ 0 ∧ n ≤ 1000000 by omega)
  have HR := qH hR
  have HX := qH hX
  have H3 := qH h3
  have B0 := qH (fun (W1 : World) (hW : Dg W1 B d ys) => (by subst hm; have := below0_n B d m y W1 hW hl' r2 hs; rw [hs] at this; exact this : Calls Tryz.prog 56 #[.agg #[.bool r, .slice B ys.length d, .int .i64 y]] W1 fun e w' => e = .returned (.bool r) ∧ Below W1.heap.size W1 w'))
  have L0 := qH (((live_start w).add h).add h')
  clear h h' hl hl' hns hw hn h2 hR hX h3 hm hs r2
  go_enter Tryz.func28, Tryz.ntmps28
  go_wp2_with fail
  obtain ⟨v1, hW, hb, Rp_1⟩ := new1 w (.cells #[.bool s, .slice A xs.length c, .int .i64 x, .int .i64 W, .slice P n k, .bool r, .slice B ys.length d, .int .i64 y] 49)
  rw [← hW]
  have L1 := ls L0 hb
  have Gp := gl0 L0.out
  clear hW hb
  refine (within_any W (-30) 10 _ HW.out).mono ?_
  rintro e w2 ⟨rfl, rfl⟩
  obtain ⟨fp0, zp0, fp1, zp1, fp2, zp2, fp3, zp3, fp4, zp4, fp5, zp5, fp6, zp6, fp7, zp7, xp⟩ := ly8z Rp_1.out
  go_wp2_with fail
  obtain ⟨w3, hW, hb, Rl_3⟩ := new1 v1 (.cells #[.bool s, .slice A xs.length c, .int .i64 x, .bool r, .slice B ys.length d, .int .i64 y] 26)
  rw [← hW]
  have L3 := ls L1 hb
  have Rp_3 := co Rp_1 hb
  have Gl := gl0 L1.out
  have Npl := nl0 Rp_1.out
  clear hW hb
  clear fp0 zp0 fp1 zp1 fp2 zp2 fp3 zp3 fp4 zp4 fp5 zp5 fp6 zp6 fp7 zp7 xp
  refine (short_2 Rl_3.out (L3.out.get (A := A) (c := c) (xs := xs) (by simp)) (L3.out.get (A := B) (c := d) (xs := ys) (by simp)) lx.out ly.out H2.out).mono ?_
  rintro e w4 ⟨rfl, hb⟩
  have L4 := ls L3 hb
  have Rp_4 := co Rp_3 hb
  have Rl_4 := co Rl_3 hb
  clear hb 
  obtain ⟨fp0, zp0, fp1, zp1, fp2, zp2, fp3, zp3, fp4, zp4, fp5, zp5, fp6, zp6, fp7, zp7, xp⟩ := ly8z Rp_4.out
  go_wp2_with fail
  refine (short_s (HNS.out.below L4.out.1) N0.out.1 HR.out HX.out N0.out.2 H3.out).mono ?_
  rintro e w5 ⟨rfl, hb⟩
  have L5 := ls L4 hb
  clear fp0 zp0 fp1 zp1 fp2 zp2 fp3 zp3 fp4 zp4 fp5 zp5 fp6 zp6 fp7 zp7 xp
  have Rp_5 := co Rp_4 hb
  have Rl_5 := co Rl_4 hb
  clear hb
  obtain ⟨fp0, zp0, fp1, zp1, fp2, zp2, fp3, zp3, fp4, zp4, fp5, zp5, fp6, zp6, fp7, zp7, xp⟩ := ly8z Rp_5.out
  go_wp2_with fail
  refine (B0.out _ (L5.out.get (A := B) (c := d) (xs := ys) (by simp))).mono ?_
  rintro e w6 ⟨rfl, hb⟩
  have L6 := ls L5 hb
  clear fp0 zp0 fp1 zp1 fp2 zp2 fp3 zp3 fp4 zp4 fp5 zp5 fp6 zp6 fp7 zp7 xp
  have Rp_6 := co Rp_5 hb
  have Rl_6 := co Rl_5 hb
  clear hb 
  obtain ⟨fp0, zp0, fp1, zp1, fp2, zp2, fp3, zp3, fp4, zp4, fp5, zp5, fp6, zp6, fp7, zp7, xp⟩ := ly8z Rp_6.out
  go_wp2
  go_ret
  exact ⟨rfl, L6.out.1⟩
abbrev Nm := Bool × List Nat × Int
structure Pd where
  a : Nm
  w : Int
  cs : List Nm
  er : Nm
def nmB (v : Nm) : Bool := mayB v.1 v.2.1 v.2.2
def pieceB (p : Pd) (D : Int) : Bool := (decide (-30 ≤ p.w) && decide (p.w ≤ 10)) && (decide ((p.cs.length : Int) = D + 1) && ((nmB p.a && nmB p.er) && (p.cs.all nmB && !p.er.1)))
def NsL (w : World) (P : Option Addr) (k : Nat) (cs : List Nm) : Prop :=
  ∃ A C, NsW w P cs.length k (fun i => (cs[i]?.getD (false, [], 0)).1) A C (fun i => (cs[i]?.getD (false, [], 0)).2.1) (fun i => (cs[i]?.getD (false, [], 0)).2.2)
theorem NsL.below {w w' : World} {P : Option Addr} {k : Nat} {cs : List Nm} (h : NsL w P k cs) (hB : Below w.heap.size w w') : NsL w' P k cs := by
  obtain ⟨A, C, h⟩ := h; exact ⟨A, C, h.below hB⟩
theorem allB_take (f : Nm → Bool) (cs : List Nm) : ∀ k, k ≤ cs.length → allB (fun i => f (cs[i]?.getD (false, [], 0))) k = (cs.take k).all f
  | 0, _ => by simp [allB]
  | k + 1, h => by
    rw [allB, allB_take f cs k (by omega), List.take_add_one, List.all_append]
    rw [List.getElem?_eq_getElem (by omega)]
    simp
theorem allB_list (f : Nm → Bool) (cs : List Nm) : allB (fun i => f (cs[i]?.getD (false, [], 0))) cs.length = cs.all f := by
  rw [allB_take f cs _ (Nat.le_refl _), List.take_length]
theorem rpiece_any {A B P : Option Addr} {c d k : Nat} {p : Pd} {D : Int} {q : Bool} {w : World} (h : Dg w A c p.a.2.1) (h' : Dg w B d p.er.2.1) (hl : p.a.2.1.length ≤ 10000) (hl' : p.er.2.1.length ≤ 10000) (hns : NsL w P k p.cs) (hX : ∀ v, v ∈ p.cs → v.2.1.length ≤ 10000) (d0 : 0 ≤ D) (d1 : D ≤ 1000) (hq : pieceB p D = q) :
    Calls Tryz.prog 28 #[.agg #[.bool p.a.1, .slice A p.a.2.1.length c, .int .i64 p.a.2.2, .int .i64 p.w, .slice P p.cs.length k, .bool p.er.1, .slice B p.er.2.1.length d, .int .i64 p.er.2.2], .int .i64 D] w fun e w' => e = .returned (.bool q) ∧ Below w.heap.size w w' := by
  obtain ⟨⟨s, xs, x⟩, W, cs, ⟨r, ys, y⟩⟩ := p
  obtain ⟨AA, CC, hns⟩ := hns
  unfold pieceB nmB at hq
  dsimp only at *
  cases hw : (decide (-30 ≤ W) && decide (W ≤ 10))
  · obtain rfl : q = false := by rw [← hq, hw]; rfl
    exact piece_0 A B P c d _ k s r xs ys x y W D _ AA CC _ _ w h h' hl hl' hns hw
  · rw [hw, Bool.true_and] at hq
    by_cases hn : (cs.length : Int) = D + 1
    · rw [decide_eq_true hn, Bool.true_and] at hq
      cases h2 : (mayB s xs x && mayB r ys y)
      · obtain rfl : q = false := by rw [← hq, h2]; rfl
        exact piece_2 A B P c d _ k s r xs ys x y W D _ AA CC _ _ w h h' hl hl' hns hw d0 d1 hn h2
      · rw [h2, Bool.true_and, ← allB_list] at hq
        have hX' : ∀ i, i < cs.length → ((cs[i]?.getD (false, [], 0)).2.1).length ≤ 10000 := fun i hi => by
          rw [List.getElem?_eq_getElem hi]; exact hX _ (List.getElem_mem hi)
        cases h3 : allB (fun i => mayB (cs[i]?.getD (false, [], 0)).1 (cs[i]?.getD (false, [], 0)).2.1 (cs[i]?.getD (false, [], 0)).2.2) cs.length
        · obtain rfl : q = false := by rw [← hq, h3]; rfl
          exact piece_3 A B P c d _ k s r xs ys x y W D _ AA CC _ _ w h h' hl hl' hns hw d0 d1 hn h2 (fun i _ => rfl) hX' h3
        · obtain rfl : q = !r := by rw [← hq, h3]; rfl
          rw [Bool.and_eq_true] at h2
          have hr : dyR r ys y = true := by have := h2.2; unfold mayB at this; rw [Bool.and_eq_true] at this; exact this.1
          obtain ⟨m, rfl, rfl, r2⟩ := num_of h'.2.1 hr
          exact piece_4 A B P c d _ k s _ xs _ x y W D _ AA CC _ _ w h h' hl hl' hns hw d0 d1 hn (by rw [h2.1, h2.2]; rfl) (fun i _ => rfl) hX' h3 rfl rfl r2
    · obtain rfl : q = false := by rw [← hq, decide_eq_false hn]; rfl
      exact piece_1 A B P c d _ k s r xs ys x y W D _ AA CC _ _ w h h' hl hl' hns hw d0 d1 hn
theorem right_0 (A P : Option Addr) (c n k : Nat) (s : Bool) (xs : List Nat) (F O x W Q D : Int) (w : World) (h : Dg w A c xs) (hl : xs.length ≤ 10000) (h0 : (decide (1 ≤ F) && decide (F ≤ 10)) = false):
    Calls Tryz.prog 15 #[.agg #[.int .i64 F, .int .i64 O, .bool s, .slice A xs.length c, .int .i64 x, .int .i64 W, .int .i64 Q, .int .i64 D, .slice P n k]] w fun e w' => e = .returned (.bool false) ∧ Below w.heap.size w w' := by
  have lx := qH hl
  have H0 := qH h0
  have L0 := qH ((live_start w).add h)
  clear h hl h0
  go_enter Tryz.func15, Tryz.ntmps15
  go_wp2_with fail
  obtain ⟨v1, hW, hb, Rt_1⟩ := new1 w (.cells #[.int .i64 F, .int .i64 O, .bool s, .slice A xs.length c, .int .i64 x, .int .i64 W, .int .i64 Q, .int .i64 D, .slice P n k] 29)
  rw [← hW]
  have L1 := ls L0 hb
  have Gt := gl0 L0.out
  clear hW hb
  refine (within_any F 1 10 _ H0.out).mono ?_
  rintro e w2 ⟨rfl, rfl⟩
  obtain ⟨ft0, zt0, ft1, zt1, ft2, zt2, ft3, zt3, ft4, zt4, ft5, zt5, ft6, zt6, ft7, zt7, ft8, zt8, xt⟩ := ly9z Rt_1.out
  go_wp2
  go_ret
  exact ⟨rfl, L1.out.1⟩
theorem right_1 (A P : Option Addr) (c n k : Nat) (s : Bool) (xs : List Nat) (F O x W Q D : Int) (w : World) (h : Dg w A c xs) (hl : xs.length ≤ 10000) (h0 : (decide (1 ≤ F) && decide (F ≤ 10)) = true) (h1 : (decide (0 ≤ O) && decide (O ≤ 64)) = false):
    Calls Tryz.prog 15 #[.agg #[.int .i64 F, .int .i64 O, .bool s, .slice A xs.length c, .int .i64 x, .int .i64 W, .int .i64 Q, .int .i64 D, .slice P n k]] w fun e w' => e = .returned (.bool false) ∧ Below w.heap.size w w' := by
  have lx := qH hl
  have H0 := qH h0
  have H1 := qH h1
  have L0 := qH ((live_start w).add h)
  clear h hl h0 h1
  go_enter Tryz.func15, Tryz.ntmps15
  go_wp2_with fail
  obtain ⟨v1, hW, hb, Rt_1⟩ := new1 w (.cells #[.int .i64 F, .int .i64 O, .bool s, .slice A xs.length c, .int .i64 x, .int .i64 W, .int .i64 Q, .int .i64 D, .slice P n k] 29)
  rw [← hW]
  have L1 := ls L0 hb
  have Gt := gl0 L0.out
  clear hW hb
  refine (within_any F 1 10 _ H0.out).mono ?_
  rintro e w2 ⟨rfl, rfl⟩
  obtain ⟨ft0, zt0, ft1, zt1, ft2, zt2, ft3, zt3, ft4, zt4, ft5, zt5, ft6, zt6, ft7, zt7, ft8, zt8, xt⟩ := ly9z Rt_1.out
  go_wp2_with fail
  refine (within_any O 0 64 _ H1.out).mono ?_
  rintro e w3 ⟨rfl, rfl⟩
  clear ft0 zt0 ft1 zt1 ft2 zt2 ft3 zt3 ft4 zt4 ft5 zt5 ft6 zt6 ft7 zt7 ft8 zt8 xt
  obtain ⟨ft0, zt0, ft1, zt1, ft2, zt2, ft3, zt3, ft4, zt4, ft5, zt5, ft6, zt6, ft7, zt7, ft8, zt8, xt⟩ := ly9z Rt_1.out
  go_wp2
  go_ret
  exact ⟨rfl, L1.out.1⟩
theorem right_2 (A P : Option Addr) (c n k : Nat) (s : Bool) (xs : List Nat) (F O x W Q D : Int) (w : World) (h : Dg w A c xs) (hl : xs.length ≤ 10000) (h0 : (decide (1 ≤ F) && decide (F ≤ 10)) = true) (h1 : (decide (0 ≤ O) && decide (O ≤ 64)) = true) (h2 : plainB s xs x = false):
    Calls Tryz.prog 15 #[.agg #[.int .i64 F, .int .i64 O, .bool s, .slice A xs.length c, .int .i64 x, .int .i64 W, .int .i64 Q, .int .i64 D, .slice P n k]] w fun e w' => e = .returned (.bool false) ∧ Below w.heap.size w w' := by
  have lx := qH hl
  have H0 := qH h0
  have H1 := qH h1
  have H2 := qH h2
  have L0 := qH ((live_start w).add h)
  clear h hl h0 h1 h2
  go_enter Tryz.func15, Tryz.ntmps15
  go_wp2_with fail
  obtain ⟨v1, hW, hb, Rt_1⟩ := new1 w (.cells #[.int .i64 F, .int .i64 O, .bool s, .slice A xs.length c, .int .i64 x, .int .i64 W, .int .i64 Q, .int .i64 D, .slice P n k] 29)
  rw [← hW]
  have L1 := ls L0 hb
  have Gt := gl0 L0.out
  clear hW hb
  refine (within_any F 1 10 _ H0.out).mono ?_
  rintro e w2 ⟨rfl, rfl⟩
  obtain ⟨ft0, zt0, ft1, zt1, ft2, zt2, ft3, zt3, ft4, zt4, ft5, zt5, ft6, zt6, ft7, zt7, ft8, zt8, xt⟩ := ly9z Rt_1.out
  go_wp2_with fail
  refine (within_any O 0 64 _ H1.out).mono ?_
  rintro e w3 ⟨rfl, rfl⟩
  clear ft0 zt0 ft1 zt1 ft2 zt2 ft3 zt3 ft4 zt4 ft5 zt5 ft6 zt6 ft7 zt7 ft8 zt8 xt
  obtain ⟨ft0, zt0, ft1, zt1, ft2, zt2, ft3, zt3, ft4, zt4, ft5, zt5, ft6, zt6, ft7, zt7, ft8, zt8, xt⟩ := ly9z Rt_1.out
  go_wp2_with fail
  refine (plain_any (L1.out.get (A := A) (c := c) (xs := xs) (by simp)) lx.out H2.out).mono ?_
  rintro e w4 ⟨rfl, hb⟩
  have L4 := ls L1 hb
  clear ft0 zt0 ft1 zt1 ft2 zt2 ft3 zt3 ft4 zt4 ft5 zt5 ft6 zt6 ft7 zt7 ft8 zt8 xt
  have Rt_4 := co Rt_1 hb
  clear hb 
  obtain ⟨ft0, zt0, ft1, zt1, ft2, zt2, ft3, zt3, ft4, zt4, ft5, zt5, ft6, zt6, ft7, zt7, ft8, zt8, xt⟩ := ly9z Rt_4.out
  go_wp2
  go_ret
  exact ⟨rfl, L4.out.1⟩
theorem right_3 (A P : Option Addr) (c n k : Nat) (s : Bool) (xs : List Nat) (F O x W Q D : Int) (w : World) (h : Dg w A c xs) (hl : xs.length ≤ 10000) (h0 : (decide (1 ≤ F) && decide (F ≤ 10)) = true) (h1 : (decide (0 ≤ O) && decide (O ≤ 64)) = true) (h2 : plainB s xs x = true) (h3 : (decide ((-30) ≤ W) && decide (W ≤ 10)) = false):
    Calls Tryz.prog 15 #[.agg #[.int .i64 F, .int .i64 O, .bool s, .slice A xs.length c, .int .i64 x, .int .i64 W, .int .i64 Q, .int .i64 D, .slice P n k]] w fun e w' => e = .returned (.bool false) ∧ Below w.heap.size w w' := by
  have lx := qH hl
  have H0 := qH h0
  have H1 := qH h1
  have H2 := qH h2
  have H3 := qH h3
  have L0 := qH ((live_start w).add h)
  clear h hl h0 h1 h2 h3
  go_enter Tryz.func15, Tryz.ntmps15
  go_wp2_with fail
  obtain ⟨v1, hW, hb, Rt_1⟩ := new1 w (.cells #[.int .i64 F, .int .i64 O, .bool s, .slice A xs.length c, .int .i64 x, .int .i64 W, .int .i64 Q, .int .i64 D, .slice P n k] 29)
  rw [← hW]
  have L1 := ls L0 hb
  have Gt := gl0 L0.out
  clear hW hb
  refine (within_any F 1 10 _ H0.out).mono ?_
  rintro e w2 ⟨rfl, rfl⟩
  obtain ⟨ft0, zt0, ft1, zt1, ft2, zt2, ft3, zt3, ft4, zt4, ft5, zt5, ft6, zt6, ft7, zt7, ft8, zt8, xt⟩ := ly9z Rt_1.out
  go_wp2_with fail
  refine (within_any O 0 64 _ H1.out).mono ?_
  rintro e w3 ⟨rfl, rfl⟩
  clear ft0 zt0 ft1 zt1 ft2 zt2 ft3 zt3 ft4 zt4 ft5 zt5 ft6 zt6 ft7 zt7 ft8 zt8 xt
  obtain ⟨ft0, zt0, ft1, zt1, ft2, zt2, ft3, zt3, ft4, zt4, ft5, zt5, ft6, zt6, ft7, zt7, ft8, zt8, xt⟩ := ly9z Rt_1.out
  go_wp2_with fail
  refine (plain_any (L1.out.get (A := A) (c := c) (xs := xs) (by simp)) lx.out H2.out).mono ?_
  rintro e w4 ⟨rfl, hb⟩
  have L4 := ls L1 hb
  clear ft0 zt0 ft1 zt1 ft2 zt2 ft3 zt3 ft4 zt4 ft5 zt5 ft6 zt6 ft7 zt7 ft8 zt8 xt
  have Rt_4 := co Rt_1 hb
  clear hb 
  obtain ⟨ft0, zt0, ft1, zt1, ft2, zt2, ft3, zt3, ft4, zt4, ft5, zt5, ft6, zt6, ft7, zt7, ft8, zt8, xt⟩ := ly9z Rt_4.out
  go_wp2_with fail
  refine (within_any W (-30) 10 _ H3.out).mono ?_
  rintro e w5 ⟨rfl, rfl⟩
  clear ft0 zt0 ft1 zt1 ft2 zt2 ft3 zt3 ft4 zt4 ft5 zt5 ft6 zt6 ft7 zt7 ft8 zt8 xt
  obtain ⟨ft0, zt0, ft1, zt1, ft2, zt2, ft3, zt3, ft4, zt4, ft5, zt5, ft6, zt6, ft7, zt7, ft8, zt8, xt⟩ := ly9z Rt_4.out
  go_wp2
  go_ret
  exact ⟨rfl, L4.out.1⟩
theorem right_4 (A P : Option Addr) (c n k : Nat) (s : Bool) (xs : List Nat) (F O x W Q D : Int) (w : World) (h : Dg w A c xs) (hl : xs.length ≤ 10000) (h0 : (decide (1 ≤ F) && decide (F ≤ 10)) = true) (h1 : (decide (0 ≤ O) && decide (O ≤ 64)) = true) (h2 : plainB s xs x = true) (h3 : (decide ((-30) ≤ W) && decide (W ≤ 10)) = true) (h4 : (decide (4 ≤ Q) && decide (Q ≤ 48)) = false):
    Calls Tryz.prog 15 #[.agg #[.int .i64 F, .int .i64 O, .bool s, .slice A xs.length c, .int .i64 x, .int .i64 W, .int .i64 Q, .int .i64 D, .slice P n k]] w fun e w' => e = .returned (.bool false) ∧ Below w.heap.size w w' := by
  have lx := qH hl
  have H0 := qH h0
  have H1 := qH h1
  have H2 := qH h2
  have H3 := qH h3
  have H4 := qH h4
  have L0 := qH ((live_start w).add h)
  clear h hl h0 h1 h2 h3 h4
  go_enter Tryz.func15, Tryz.ntmps15
  go_wp2_with fail
  obtain ⟨v1, hW, hb, Rt_1⟩ := new1 w (.cells #[.int .i64 F, .int .i64 O, .bool s, .slice A xs.length c, .int .i64 x, .int .i64 W, .int .i64 Q, .int .i64 D, .slice P n k] 29)
  rw [← hW]
  have L1 := ls L0 hb
  have Gt := gl0 L0.out
  clear hW hb
  refine (within_any F 1 10 _ H0.out).mono ?_
  rintro e w2 ⟨rfl, rfl⟩
  obtain ⟨ft0, zt0, ft1, zt1, ft2, zt2, ft3, zt3, ft4, zt4, ft5, zt5, ft6, zt6, ft7, zt7, ft8, zt8, xt⟩ := ly9z Rt_1.out
  go_wp2_with fail
  refine (within_any O 0 64 _ H1.out).mono ?_
  rintro e w3 ⟨rfl, rfl⟩
  clear ft0 zt0 ft1 zt1 ft2 zt2 ft3 zt3 ft4 zt4 ft5 zt5 ft6 zt6 ft7 zt7 ft8 zt8 xt
  obtain ⟨ft0, zt0, ft1, zt1, ft2, zt2, ft3, zt3, ft4, zt4, ft5, zt5, ft6, zt6, ft7, zt7, ft8, zt8, xt⟩ := ly9z Rt_1.out
  go_wp2_with fail
  refine (plain_any (L1.out.get (A := A) (c := c) (xs := xs) (by simp)) lx.out H2.out).mono ?_
  rintro e w4 ⟨rfl, hb⟩
  have L4 := ls L1 hb
  clear ft0 zt0 ft1 zt1 ft2 zt2 ft3 zt3 ft4 zt4 ft5 zt5 ft6 zt6 ft7 zt7 ft8 zt8 xt
  have Rt_4 := co Rt_1 hb
  clear hb 
  obtain ⟨ft0, zt0, ft1, zt1, ft2, zt2, ft3, zt3, ft4, zt4, ft5, zt5, ft6, zt6, ft7, zt7, ft8, zt8, xt⟩ := ly9z Rt_4.out
  go_wp2_with fail
  refine (within_any W (-30) 10 _ H3.out).mono ?_
  rintro e w5 ⟨rfl, rfl⟩
  clear ft0 zt0 ft1 zt1 ft2 zt2 ft3 zt3 ft4 zt4 ft5 zt5 ft6 zt6 ft7 zt7 ft8 zt8 xt
  obtain ⟨ft0, zt0, ft1, zt1, ft2, zt2, ft3, zt3, ft4, zt4, ft5, zt5, ft6, zt6, ft7, zt7, ft8, zt8, xt⟩ := ly9z Rt_4.out
  go_wp2_with fail
  refine (within_any Q 4 48 _ H4.out).mono ?_
  rintro e w6 ⟨rfl, rfl⟩
  clear ft0 zt0 ft1 zt1 ft2 zt2 ft3 zt3 ft4 zt4 ft5 zt5 ft6 zt6 ft7 zt7 ft8 zt8 xt
  obtain ⟨ft0, zt0, ft1, zt1, ft2, zt2, ft3, zt3, ft4, zt4, ft5, zt5, ft6, zt6, ft7, zt7, ft8, zt8, xt⟩ := ly9z Rt_4.out
  go_wp2
  go_ret
  exact ⟨rfl, L4.out.1⟩
theorem right_5 (A P : Option Addr) (c n k : Nat) (s : Bool) (xs : List Nat) (F O x W Q D : Int) (w : World) (h : Dg w A c xs) (hl : xs.length ≤ 10000) (h0 : (decide (1 ≤ F) && decide (F ≤ 10)) = true) (h1 : (decide (0 ≤ O) && decide (O ≤ 64)) = true) (h2 : plainB s xs x = true) (h3 : (decide ((-30) ≤ W) && decide (W ≤ 10)) = true) (h4 : (decide (4 ≤ Q) && decide (Q ≤ 48)) = true) (h5 : (decide (1 ≤ D) && decide (D ≤ 16)) = false):
    Calls Tryz.prog 15 #[.agg #[.int .i64 F, .int .i64 O, .bool s, .slice A xs.length c, .int .i64 x, .int .i64 W, .int .i64 Q, .int .i64 D, .slice P n k]] w fun e w' => e = .returned (.bool false) ∧ Below w.heap.size w w' := by
  have lx := qH hl
  have H0 := qH h0
  have H1 := qH h1
  have H2 := qH h2
  have H3 := qH h3
  have H4 := qH h4
  have H5 := qH h5
  have L0 := qH ((live_start w).add h)
  clear h hl h0 h1 h2 h3 h4 h5
  go_enter Tryz.func15, Tryz.ntmps15
  go_wp2_with fail
  obtain ⟨v1, hW, hb, Rt_1⟩ := new1 w (.cells #[.int .i64 F, .int .i64 O, .bool s, .slice A xs.length c, .int .i64 x, .int .i64 W, .int .i64 Q, .int .i64 D, .slice P n k] 29)
  rw [← hW]
  have L1 := ls L0 hb
  have Gt := gl0 L0.out
  clear hW hb
  refine (within_any F 1 10 _ H0.out).mono ?_
  rintro e w2 ⟨rfl, rfl⟩
  obtain ⟨ft0, zt0, ft1, zt1, ft2, zt2, ft3, zt3, ft4, zt4, ft5, zt5, ft6, zt6, ft7, zt7, ft8, zt8, xt⟩ := ly9z Rt_1.out
  go_wp2_with fail
  refine (within_any O 0 64 _ H1.out).mono ?_
  rintro e w3 ⟨rfl, rfl⟩
  clear ft0 zt0 ft1 zt1 ft2 zt2 ft3 zt3 ft4 zt4 ft5 zt5 ft6 zt6 ft7 zt7 ft8 zt8 xt
  obtain ⟨ft0, zt0, ft1, zt1, ft2, zt2, ft3, zt3, ft4, zt4, ft5, zt5, ft6, zt6, ft7, zt7, ft8, zt8, xt⟩ := ly9z Rt_1.out
  go_wp2_with fail
  refine (plain_any (L1.out.get (A := A) (c := c) (xs := xs) (by simp)) lx.out H2.out).mono ?_
  rintro e w4 ⟨rfl, hb⟩
  have L4 := ls L1 hb
  clear ft0 zt0 ft1 zt1 ft2 zt2 ft3 zt3 ft4 zt4 ft5 zt5 ft6 zt6 ft7 zt7 ft8 zt8 xt
  have Rt_4 := co Rt_1 hb
  clear hb 
  obtain ⟨ft0, zt0, ft1, zt1, ft2, zt2, ft3, zt3, ft4, zt4, ft5, zt5, ft6, zt6, ft7, zt7, ft8, zt8, xt⟩ := ly9z Rt_4.out
  go_wp2_with fail
  refine (within_any W (-30) 10 _ H3.out).mono ?_
  rintro e w5 ⟨rfl, rfl⟩
  clear ft0 zt0 ft1 zt1 ft2 zt2 ft3 zt3 ft4 zt4 ft5 zt5 ft6 zt6 ft7 zt7 ft8 zt8 xt
  obtain ⟨ft0, zt0, ft1, zt1, ft2, zt2, ft3, zt3, ft4, zt4, ft5, zt5, ft6, zt6, ft7, zt7, ft8, zt8, xt⟩ := ly9z Rt_4.out
  go_wp2_with fail
  refine (within_any Q 4 48 _ H4.out).mono ?_
  rintro e w6 ⟨rfl, rfl⟩
  clear ft0 zt0 ft1 zt1 ft2 zt2 ft3 zt3 ft4 zt4 ft5 zt5 ft6 zt6 ft7 zt7 ft8 zt8 xt
  obtain ⟨ft0, zt0, ft1, zt1, ft2, zt2, ft3, zt3, ft4, zt4, ft5, zt5, ft6, zt6, ft7, zt7, ft8, zt8, xt⟩ := ly9z Rt_4.out
  go_wp2_with fail
  refine (within_any D 1 16 _ H5.out).mono ?_
  rintro e w7 ⟨rfl, rfl⟩
  clear ft0 zt0 ft1 zt1 ft2 zt2 ft3 zt3 ft4 zt4 ft5 zt5 ft6 zt6 ft7 zt7 ft8 zt8 xt
  obtain ⟨ft0, zt0, ft1, zt1, ft2, zt2, ft3, zt3, ft4, zt4, ft5, zt5, ft6, zt6, ft7, zt7, ft8, zt8, xt⟩ := ly9z Rt_4.out
  go_wp2
  go_ret
  exact ⟨rfl, L4.out.1⟩
theorem right_6 (A P : Option Addr) (c n k : Nat) (s : Bool) (xs : List Nat) (F O x W Q D : Int) (w : World) (h : Dg w A c xs) (hl : xs.length ≤ 10000) (h0 : (decide (1 ≤ F) && decide (F ≤ 10)) = true) (h1 : (decide (0 ≤ O) && decide (O ≤ 64)) = true) (h2 : plainB s xs x = true) (h3 : (decide ((-30) ≤ W) && decide (W ≤ 10)) = true) (h4 : (decide (4 ≤ Q) && decide (Q ≤ 48)) = true) (h5 : (decide (1 ≤ D) && decide (D ≤ 16)) = true) (h6 : (decide (1 ≤ ((n : Nat) : Int)) && decide (((n : Nat) : Int) ≤ 32)) = false):
    Calls Tryz.prog 15 #[.agg #[.int .i64 F, .int .i64 O, .bool s, .slice A xs.length c, .int .i64 x, .int .i64 W, .int .i64 Q, .int .i64 D, .slice P n k]] w fun e w' => e = .returned (.bool false) ∧ Below w.heap.size w w' := by
  have lx := qH hl
  have H0 := qH h0
  have H1 := qH h1
  have H2 := qH h2
  have H3 := qH h3
  have H4 := qH h4
  have H5 := qH h5
  have H6 := qH h6
  have L0 := qH ((live_start w).add h)
  clear h hl h0 h1 h2 h3 h4 h5 h6
  go_enter Tryz.func15, Tryz.ntmps15
  go_wp2_with fail
  obtain ⟨v1, hW, hb, Rt_1⟩ := new1 w (.cells #[.int .i64 F, .int .i64 O, .bool s, .slice A xs.length c, .int .i64 x, .int .i64 W, .int .i64 Q, .int .i64 D, .slice P n k] 29)
  rw [← hW]
  have L1 := ls L0 hb
  have Gt := gl0 L0.out
  clear hW hb
  refine (within_any F 1 10 _ H0.out).mono ?_
  rintro e w2 ⟨rfl, rfl⟩
  obtain ⟨ft0, zt0, ft1, zt1, ft2, zt2, ft3, zt3, ft4, zt4, ft5, zt5, ft6, zt6, ft7, zt7, ft8, zt8, xt⟩ := ly9z Rt_1.out
  go_wp2_with fail
  refine (within_any O 0 64 _ H1.out).mono ?_
  rintro e w3 ⟨rfl, rfl⟩
  clear ft0 zt0 ft1 zt1 ft2 zt2 ft3 zt3 ft4 zt4 ft5 zt5 ft6 zt6 ft7 zt7 ft8 zt8 xt
  obtain ⟨ft0, zt0, ft1, zt1, ft2, zt2, ft3, zt3, ft4, zt4, ft5, zt5, ft6, zt6, ft7, zt7, ft8, zt8, xt⟩ := ly9z Rt_1.out
  go_wp2_with fail
  refine (plain_any (L1.out.get (A := A) (c := c) (xs := xs) (by simp)) lx.out H2.out).mono ?_
  rintro e w4 ⟨rfl, hb⟩
  have L4 := ls L1 hb
  clear ft0 zt0 ft1 zt1 ft2 zt2 ft3 zt3 ft4 zt4 ft5 zt5 ft6 zt6 ft7 zt7 ft8 zt8 xt
  have Rt_4 := co Rt_1 hb
  clear hb 
  obtain ⟨ft0, zt0, ft1, zt1, ft2, zt2, ft3, zt3, ft4, zt4, ft5, zt5, ft6, zt6, ft7, zt7, ft8, zt8, xt⟩ := ly9z Rt_4.out
  go_wp2_with fail
  refine (within_any W (-30) 10 _ H3.out).mono ?_
  rintro e w5 ⟨rfl, rfl⟩
  clear ft0 zt0 ft1 zt1 ft2 zt2 ft3 zt3 ft4 zt4 ft5 zt5 ft6 zt6 ft7 zt7 ft8 zt8 xt
  obtain ⟨ft0, zt0, ft1, zt1, ft2, zt2, ft3, zt3, ft4, zt4, ft5, zt5, ft6, zt6, ft7, zt7, ft8, zt8, xt⟩ := ly9z Rt_4.out
  go_wp2_with fail
  refine (within_any Q 4 48 _ H4.out).mono ?_
  rintro e w6 ⟨rfl, rfl⟩
  clear ft0 zt0 ft1 zt1 ft2 zt2 ft3 zt3 ft4 zt4 ft5 zt5 ft6 zt6 ft7 zt7 ft8 zt8 xt
  obtain ⟨ft0, zt0, ft1, zt1, ft2, zt2, ft3, zt3, ft4, zt4, ft5, zt5, ft6, zt6, ft7, zt7, ft8, zt8, xt⟩ := ly9z Rt_4.out
  go_wp2_with fail
  refine (within_any D 1 16 _ H5.out).mono ?_
  rintro e w7 ⟨rfl, rfl⟩
  clear ft0 zt0 ft1 zt1 ft2 zt2 ft3 zt3 ft4 zt4 ft5 zt5 ft6 zt6 ft7 zt7 ft8 zt8 xt
  obtain ⟨ft0, zt0, ft1, zt1, ft2, zt2, ft3, zt3, ft4, zt4, ft5, zt5, ft6, zt6, ft7, zt7, ft8, zt8, xt⟩ := ly9z Rt_4.out
  go_wp2_with fail
  refine (within_any ((n : Nat) : Int) 1 32 _ H6.out).mono ?_
  rintro e w8 ⟨rfl, rfl⟩
  clear ft0 zt0 ft1 zt1 ft2 zt2 ft3 zt3 ft4 zt4 ft5 zt5 ft6 zt6 ft7 zt7 ft8 zt8 xt
  obtain ⟨ft0, zt0, ft1, zt1, ft2, zt2, ft3, zt3, ft4, zt4, ft5, zt5, ft6, zt6, ft7, zt7, ft8, zt8, xt⟩ := ly9z Rt_4.out
  go_wp2
  go_ret
  exact ⟨rfl, L4.out.1⟩
def endz (m x W : Int) : Int := upto m x (min x W) + upto 1 W (min x W)
def endq (m x W : Int) : Int × Int := ((tot (nm (endz m x W)) (nx (endz m x W) (min x W))).1, (tot (nm (endz m x W)) (nx (endz m x W) (min x W))).2.1)
theorem endz_is (m x W : Int) : IsD (dv m x + dv 1 W) (nm (endz m x W)) (nx (endz m x W) (min x W)) := by
  rw [← sum_upto m x 1 W]; exact isD_n _ _
theorem endq_rt (m x W : Int) : Rt (endq m x W).1 (endq m x W).2 ∧ (digs (endq m x W).1.natAbs).length ≤ 10000 := by
  have h := endz_is m x W
  have t := tot_len (M := nm (endz m x W)) (E := nx (endz m x W) (min x W)) (K := (endq m x W).1) (F := (endq m x W).2) (t := (tot (nm (endz m x W)) (nx (endz m x W) (min x W))).2.2) rfl h.1
  refine ⟨⟨t.2, ?_⟩, t.1⟩
  show -131072 ≤ (tot _ _).2.1 ∧ (tot _ _).2.1 ≤ 131072
  unfold tot
  by_cases hi : inR (nm (endz m x W)) (nx (endz m x W) (min x W)) = true
  · rw [if_pos hi]
    unfold inR at hi
    rw [decide_eq_true_eq] at hi
    rcases hi with h0 | h0
    · have := nf_zero h.1 h0
      dsimp only; omega
    · exact ⟨h0.1, h0.2.1⟩
  · rw [if_neg hi]; dsimp only; omega
theorem end_q {A : Option Addr} {c : Nat} {m v W K F : Int} {w : World} (h : Dg w A c (digs m.natAbs)) (hl : (digs m.natAbs).length ≤ 10000) (r1 : Rt m v) (hT : T32 w) (h0 : -30 ≤ W) (h1 : W ≤ 10) (hq : endq m v W = (K, F)) :
    Calls Tryz.prog 30 #[.agg #[.bool (decide (m < 0)), .slice A (digs m.natAbs).length c, .int .i64 v], .int .i64 W] w fun e w' => Yr K F w e w' := by
  have := end_n A c m v W 1 _ _ (endq m v W).1 (endq m v W).2 (tot (nm (endz m v W)) (nx (endz m v W) (min v W))).2.2 w h hl r1 hT h0 h1 rfl (endz_is m v W) rfl
  rw [hq] at this; exact this
def nmv (v : Nm) : Int := sg v.1 (val v.2.1)
def rightL (D : Int) : List Pd → Int × Int → Option (Int × Int)
  | [], q => some q
  | p :: ps, q => if pieceB p D && decide (nmv p.a = q.1 ∧ p.a.2.2 = q.2) then rightL D ps (endq q.1 q.2 p.w) else none
theorem rightL_snoc (D : Int) (p : Pd) : ∀ (ps : List Pd) (q : Int × Int), rightL D (ps ++ [p]) q = (rightL D ps q).bind fun r => if pieceB p D && decide (nmv p.a = r.1 ∧ p.a.2.2 = r.2) then some (endq r.1 r.2 p.w) else none
  | [], q => by simp [rightL]
  | a :: ps, q => by
    simp only [List.cons_append, rightL]
    split
    · exact rightL_snoc D p ps _
    · rfl
theorem rightL_app (D : Int) : ∀ (ps rs : List Pd) (q : Int × Int), rightL D ps q = none → rightL D (ps ++ rs) q = none
  | [], rs, q, h => by cases h
  | a :: ps, rs, q, h => by
    simp only [List.cons_append, rightL] at h ⊢
    split at h
    · rename_i hc
      rw [if_pos hc]; exact rightL_app D ps rs _ h
    · rename_i hc
      rw [if_neg hc]
def rightT (F O : Int) (a : Nm) (W Q D : Int) (ps : List Pd) : Bool :=
  (decide (1 ≤ F) && decide (F ≤ 10)) && ((decide (0 ≤ O) && decide (O ≤ 64)) && (plainB a.1 a.2.1 a.2.2 && ((decide (-30 ≤ W) && decide (W ≤ 10)) && ((decide (4 ≤ Q) && decide (Q ≤ 48)) && ((decide (1 ≤ D) && decide (D ≤ 16)) && ((decide (1 ≤ (ps.length : Int)) && decide ((ps.length : Int) ≤ 32)) && (rightL D ps (nmv a, a.2.2) == some (endq (nmv a) a.2.2 W))))))))
end Go.Proofs.YtdmfapgclppmhaaGreatDoor
end
