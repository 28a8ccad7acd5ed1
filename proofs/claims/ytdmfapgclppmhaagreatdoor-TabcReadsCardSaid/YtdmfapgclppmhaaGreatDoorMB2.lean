import Derived.Test.YtdmfapgclppmhaaGreatDoorMB1
import Derived.Test.YtdmfapgclppmhaaGreatDoorMB0
import Derived.Laws.IdiomStrings
import Derived.Lib.Slices
import Derived.Laws.OwnMore
import Derived.Deep.AppendLies
set_option maxHeartbeats 16000000
set_option maxRecDepth 100000
section
namespace Go.Proofs.YtdmfapgclppmhaaGreatDoor
open Go.RowKit
theorem low_ex : ∀ (xs : List Nat), val xs ≠ 0 → ∃ i, i < xs.length ∧ xs[i]?.getD 0 ≠ 0 ∧ ∀ j, j < i → xs[j]?.getD 0 = 0 := by
  intro xs
  induction xs with
  | nil => intro h; exact absurd rfl h
  | cons x r ih =>
    intro h
    by_cases hx : x = 0
    · obtain ⟨i, h1, h2, h3⟩ := ih (by intro h0; apply h; simp only [val]; omega)
      refine ⟨i + 1, by simp; omega, by simpa using h2, fun j hj => ?_⟩
      rcases j with _ | j
      · simpa using hx
      · simpa using h3 j (by omega)
    · exact ⟨0, by simp, by simpa using hx, fun j hj => by omega⟩
theorem zeros_any (A : Option Addr) (c : Nat) (xs : List Nat) (w : World) (h : Dg w A c xs) (hv : val xs ≠ 0) (hl : xs.length ≤ 1000000) (hT : T32 w) :
    Calls Tryz.prog 103 #[.slice A xs.length c] w fun e w' => e = .returned (.int .i64 (tz (val xs) : Nat)) ∧ w = w' := by
  obtain ⟨i, hi, hne, hz⟩ := low_ex xs hv
  have HV := qH (tz_val xs i hz hi hne h.2.1)
  have hx := getD_lt h.2.1 i
  have HT := qH (tz32_any _ hne hx w hT)
  have htl := tz_lt hne (show xs[i]?.getD 0 < 2 ^ 32 by omega)
  obtain ⟨b, off, hA, hb, hc⟩ := h.2.2 (by omega)
  have hcap := h.1
  have HC := qH hc
  have HZ := qH hz
  have HN := qH hne
  have ci := hc i hi
  generalize xs[i]?.getD 0 = d at *
  obtain ⟨t, ht⟩ : ∃ t : Nat, tz d = t := ⟨_, rfl⟩
  rw [ht] at HV htl HT
  have HH := qH ht
  clear h hv hc hz hne hT ht
  subst hA
  go_enter Tryz.func103, Tryz.ntmps103
  go_wp2
  go_loop [3] (fun n => ∃ k : Nat, k ≤ i ∧ n = .int .i64 k) (fun n => i - (intOf n).toNat)
  case atStart => exact ⟨0, by omega, rfl⟩
  case round =>
    obtain ⟨k, hk, rfl⟩ := hrel
    have hkl : k < xs.length := by omega
    by_cases hlt : k < i
    · have ck := HC.out k hkl
      rw [HZ.out k hlt] at ck
      clear ci
      go_wp2
      go_round
      case rel => exact ⟨k + 1, by omega, by go_num⟩
      case measure => simp [intOf]; omega
    · obtain rfl : k = i := by omega
      have hdn : ((d : Int) == 0) = false := by have := HN.out; simp; omega
      go_wp2_with fail
      refine HT.out.mono ?_
      rintro e w' ⟨rfl, rfl⟩
      go_wp2
      go_ret
      exact ⟨ret_i (by rw [HV.out]; push_cast; omega), rfl⟩
theorem digs_shift {x : Nat} (h : x ≠ 0) : ∀ k : Nat, digs (x * 4294967296 ^ k) = List.replicate k 0 ++ digs x
  | 0 => by simp
  | k + 1 => by
    have hp : 0 < x * 4294967296 ^ k := Nat.mul_pos (by omega) (Nat.pow_pos (by omega))
    have e : x * 4294967296 ^ (k + 1) = x * 4294967296 ^ k * 4294967296 := by rw [Nat.pow_succ, Nat.mul_assoc]
    rw [e, digs_pos (by omega), Nat.mul_mod_left, Nat.mul_div_cancel _ (by omega), digs_shift h k, List.replicate_succ]
    rfl
theorem pow_parts2 (x n : Nat) : x * 2 ^ n = x * 2 ^ (n % 32) * 4294967296 ^ (n / 32) := by
  rw [show (4294967296 : Nat) = 2 ^ 32 from rfl, ← Nat.pow_mul, Nat.mul_assoc, ← Nat.pow_add, show n % 32 + 32 * (n / 32) = n by omega]
theorem ok_zeros2 (k : Nat) {xs : List Nat} (h : ok32 xs) : ok32 (List.replicate k 0 ++ xs) := by
  intro y hy
  rcases List.mem_append.1 hy with h1 | h1
  · have := (List.mem_replicate.1 h1).2; omega
  · exact h y h1
theorem lift_any (A : Option Addr) (c : Nat) (xs : List Nat) (n : Nat) (w : World) (h : Dg w A c xs) (hl : xs.length ≤ 500000) (hn : n ≤ 1000000) :
    Calls Tryz.prog 102 #[.slice A xs.length c, .int .i64 n] w fun e w' => ∃ A' c', e = .returned (.slice A' (digs (val xs * 2 ^ n)).length c') ∧ Dg w' A' c' (digs (val xs * 2 ^ n)) ∧ Below w.heap.size w w' := by
  have hk0 := h.2.1
  have HS := qH (shl_any A c xs (n % 32) w h (by omega) (by omega))
  rw [show ((n % 32 : Nat) : Int) = (n : Int) % 32 by omega] at HS
  clear h
  by_cases hlt : n < 32
  · have e : n % 32 = n := by omega
    rw [e] at HS
    have d1 : decide ((n : Int) < 32) = true := by simp; omega
    clear e hlt
    go_enter Tryz.func102, Tryz.ntmps102
    go_wp2_with fail
    refine HS.out.mono ?_
    rintro e w1 ⟨A1, c1, rfl, hd, hb⟩
    have K := qH (And.intro hd hb)
    clear hd hb
    go_wp2
    go_ret
    exact ⟨A1, c1, rfl, K.out.1, K.out.2⟩
  · have d1 : decide ((n : Int) < 32) = false := by simp; omega
    have hp := pow_parts2 (val xs) n
    have hly0 := digs_mul_len (val xs) (2 ^ (n % 32))
    have hly1 := digs_len_lt (m := 1) (n := 2 ^ (n % 32)) (by
      have : 2 ^ (n % 32) < 2 ^ 32 := Nat.pow_lt_pow_right (by omega) (by omega)
      omega)
    have hly2 := digs_len_mono (val xs) _ (Nat.le_refl _)
    have hly3 : (digs (val xs * 2 ^ (n % 32))).length ≤ 1000000 := by
      have := digs_len_le hk0
      omega
    clear hly0 hly1 hly2
    generalize val xs * 2 ^ (n % 32) = y at *
    by_cases hy : y = 0
    · have e0 : val xs * 2 ^ n = 0 := by rw [hp, hy, Nat.zero_mul]
      rw [e0]
      rw [hy] at HS
      have d2 : (((digs 0).length : Int) == 0) = true := by rw [digs_zero]; rfl
      clear hp hy e0 hlt hly3
      generalize digs 0 = zs at *
      go_enter Tryz.func102, Tryz.ntmps102
      go_wp2_with fail
      refine HS.out.mono ?_
      rintro e w1 ⟨A1, c1, rfl, hd, hb⟩
      have K := qH (And.intro hd hb)
      clear hd hb
      go_wp2
      go_ret
      exact ⟨A1, c1, rfl, K.out.1, K.out.2⟩
    · have HD := qH (digs_shift hy (n / 32))
      rw [← hp] at HD
      have d2 : (((digs y).length : Int) == 0) = false := beq_eq_false_iff_ne.2 (by have : (digs y).length ≠ 0 := fun e => hy (digs_nil.1 e); omega)
      have hk := ok_digs y
      have HK := qH (ok_zeros2 (n / 32) hk)
      have hmk := run_make_row' (P := Tryz.prog) 22 67 (.int .u32 0) 4 Tryz.underlying22 elem_info rfl .i64 .i64 (n / 32) (by omega) (by omega)
      rw [show ((n / 32 : Nat) : Int) = (n : Int) / 32 by omega] at hmk
      clear hp hy hk hlt
      generalize val xs * 2 ^ n = v at *
      generalize digs y = zs at *
      go_enter Tryz.func102, Tryz.ntmps102
      go_wp2_with fail
      refine HS.out.mono ?_
      rintro e w1 ⟨A1, c1, rfl, hd, hb⟩
      have HO := qH (own_zeros (w := w1) (e := 67) (n / 32) (by unfold maxLen; omega))
      have K := qH (And.intro hd hb)
      clear hd hb
      go_wp2_with (at_builtin; refine wpList_append_dg rfl _ _ rfl w1.heap.size _ (n / 32) (List.replicate (n / 32) 0) zs A1 c1 zs.length rfl HO.out (K.out.1.below (below1 _ _)) rfl rfl (by omega) (by simp) ?_)
      intro v' w6 hown hgrow
      obtain ⟨A6, c6, hv, hd6⟩ := dg_of_own hown HK.out
      have hb6 := ((below1 w1 (.cells (madeCells #[.int .u32 0] (n / 32)) 67))).grown hgrow (by simp) (by intro k hk; simp [Value.ownBlock] at hk; omega)
      have K2 := qH (And.intro hd6 (K.out.2.trans (hb6.mono K.out.2.size)))
      subst hv
      clear hown hd6 hgrow hb6
      go_wp2
      go_ret
      refine ⟨A6, c6, ?_, ?_, K2.out.2⟩
      · rw [HD.out]; rfl
      · rw [HD.out]; exact K2.out.1
def Yr (M E : Int) (w : World) (e : Ending) (w' : World) : Prop := ∃ A c, e = .returned (.agg #[.bool (decide (M < 0)), .slice A (digs M.natAbs).length c, .int .i64 E]) ∧ Dg w' A c (digs M.natAbs) ∧ Below w.heap.size w w'
theorem yr_mk {M E : Int} {w w' : World} {A : Option Addr} {c : Nat} {s : Bool} {x : Nat} {y : Int} (hx : x = M.natAbs) (hs : s = decide (M < 0)) (hy : y = E) (hd : Dg w' A c (digs x)) (hb : Below w.heap.size w w') :
    Yr M E w (.returned (.agg #[.bool s, .slice A (digs x).length c, .int .i64 y])) w' := by
  subst hx hs hy; exact ⟨A, c, rfl, hd, hb⟩
theorem nm_sg {s : Bool} {x : Nat} (h : x ≠ 0) : (nm (sg s x)).natAbs = x / 2 ^ tz x ∧ s = decide (nm (sg s x) < 0) ∧ ∀ e, nx (sg s x) e = e + tz x := by
  have ha := sg_abs s x
  have h0 : sg s x ≠ 0 := by intro e; rw [e] at ha; omega
  have ⟨_, _, c⟩ := nm_back h0
  rw [ha] at c
  refine ⟨c, ?_, fun e => ?_⟩
  · rw [nm_neg_iff]; unfold sg; cases s
    · simp
    · simp; omega
  · unfold nx; rw [if_neg h0, ha]
theorem odd_any (A : Option Addr) (c : Nat) (s : Bool) (x : Nat) (y M E : Int) (w : World) (h : Dg w A c (digs x)) (hl : (digs x).length ≤ 500000) (hT : T32 w) (hy : -1000000000 ≤ y ∧ y ≤ 1000000000) (hM : nm (sg s x) = M) (hE : nx (sg s x) y = E) :
    Calls Tryz.prog 80 #[.agg #[.bool s, .slice A (digs x).length c], .int .i64 y] w fun e w' => Yr M E w e w' := by
  by_cases h0 : x = 0
  · have d0 : (((digs x).length : Int) == 0) = true := by rw [h0, digs_zero]; rfl
    have HM := qH (show M = 0 ∧ E = 0 by rw [← hM, ← hE, h0]; unfold sg; cases s <;> exact ⟨rfl, rfl⟩)
    clear h0 h hM hE hT
    go_enter Tryz.func80, Tryz.ntmps80
    go_wp2
    refine bodyPost_ret (v := .agg #[.bool false, .slice none 0 0, .int .i64 0]) (by simp [results, Tryz.results80, go_sem]) rfl ?_
    have e1 := HM.out.1
    have e2 := HM.out.2
    subst e1 e2
    refine ⟨none, 0, ?_, ?_, below2 _ _ _⟩
    · show _ = Ending.returned (.agg #[.bool false, .slice none (digs 0).length 0, .int .i64 0])
      rw [digs_zero]; rfl
    · show Dg _ none 0 (digs 0)
      rw [digs_zero]; exact Dg.nil_ _ _
  · have d0 : (((digs x).length : Int) == 0) = false := beq_eq_false_iff_ne.2 (by have : (digs x).length ≠ 0 := fun e => h0 (digs_nil.1 e); omega)
    have HN := qH (nm_sg (s := s) h0)
    rw [hM] at HN
    have HE := qH (hE ▸ HN.out.2.2 y)
    have HM := qH HN.out.1
    have HS := qH HN.out.2.1
    have HZ := qH (fun W (hW : Dg W A c (digs x)) (hT : T32 W) => zeros_any A c (digs x) W hW (by rw [val_digs]; exact h0) (by omega) hT)
    rw [val_digs] at HZ
    have htl := tz_lt (n := x) (k := 32 * (digs x).length) h0 (by have := val_lt (ok_digs x); rw [val_digs] at this; rw [Nat.pow_mul]; exact this)
    have HR := qH (fun W (hW : Dg W A c (digs x)) => shr_any A c (digs x) (tz x) W hW (by omega) (by omega))
    rw [val_digs] at HR
    have H := qH h
    have HT := qH hT
    have HX0 := qH h0
    generalize tz x = k at *
    obtain ⟨y0, y1⟩ := hy
    have hk : k ≤ 16000000 := by omega
    clear h0 h hM hE hT htl HN
    by_cases hk0 : k = 0
    · have d1 : decide (0 < k) = false := by rw [hk0]; rfl
      have HK := qH hk0
      clear hk0
      go_enter Tryz.func80, Tryz.ntmps80
      go_wp2_with fail
      refine (HZ.out _ (H.out.below (below2 w _ _)) (t32_below HT.out (below2 w _ _))).mono ?_
      rintro e w1 ⟨rfl, rfl⟩
      go_wp2
      refine bodyPost_ret (v := .agg #[.bool s, .slice A (digs x).length c, .int .i64 y]) (by simp [results, Tryz.results80, go_sem]) rfl ?_
      refine yr_mk ?_ HS.out ?_ (H.out.below (below2 _ _ _)) (below2 _ _ _)
      · rw [HM.out, HK.out]; simp
      · rw [HE.out, HK.out]; simp
    · have d1 : decide (0 < k) = true := by simp; omega
      have hyk : wrap64 (y + (k : Int)) = y + (k : Int) := IntWalk.wrap64_in _ ⟨by omega, by omega⟩
      clear hk0
      go_enter Tryz.func80, Tryz.ntmps80
      go_wp2_with fail
      refine (HZ.out _ (H.out.below (below2 w _ _)) (t32_below HT.out (below2 w _ _))).mono ?_
      rintro e w1 ⟨rfl, rfl⟩
      go_wp2_with fail
      refine (HR.out _ (H.out.below (below2 w _ _))).mono ?_
      rintro e w1 ⟨A1, c1, rfl, hd, hb⟩
      have f0 := row_cell (heap_alloc2_old w (.cells #[.bool s, .slice A (digs x).length c] 24) (.cells #[.bool false, .slice none 0 0, .int .i64 0] 26)) hb 0
      have f1 := row_cell (heap_alloc2_old w (.cells #[.bool s, .slice A (digs x).length c] 24) (.cells #[.bool false, .slice none 0 0, .int .i64 0] 26)) hb 1
      have z1 := row_frozen (heap_alloc2_old w (.cells #[.bool s, .slice A (digs x).length c] 24) (.cells #[.bool false, .slice none 0 0, .int .i64 0] 26)) hb 1
      have r0 := row_cell (heap_alloc2_new w (.cells #[.bool s, .slice A (digs x).length c] 24) (.cells #[.bool false, .slice none 0 0, .int .i64 0] 26)) hb 0
      have r1 := row_cell (heap_alloc2_new w (.cells #[.bool s, .slice A (digs x).length c] 24) (.cells #[.bool false, .slice none 0 0, .int .i64 0] 26)) hb 1
      have r2 := row_cell (heap_alloc2_new w (.cells #[.bool s, .slice A (digs x).length c] 24) (.cells #[.bool false, .slice none 0 0, .int .i64 0] 26)) hb 2
      have y0 := row_frozen (heap_alloc2_new w (.cells #[.bool s, .slice A (digs x).length c] 24) (.cells #[.bool false, .slice none 0 0, .int .i64 0] 26)) hb 0
      have y1 := row_frozen (heap_alloc2_new w (.cells #[.bool s, .slice A (digs x).length c] 24) (.cells #[.bool false, .slice none 0 0, .int .i64 0] 26)) hb 1
      have y2 := row_frozen (heap_alloc2_new w (.cells #[.bool s, .slice A (digs x).length c] 24) (.cells #[.bool false, .slice none 0 0, .int .i64 0] 26)) hb 2
      simp only [gAy, gZy, gSy] at f0 f1 r0 r1 r2
      have HB := qH ((below2 w _ _).trans (hb.mono (by simp; omega)))
      have HO1 := qH (off_box (g := w.heap.size) hd ((below1 _ _).trans (hb.mono (by simp))) rfl noint2')
      have HO2 := qH (off_box (g := w.heap.size + 1) hd hb (by simp) noint3)
      have HD := qH hd
      clear hb hd
      go_wp2
      refine bodyPost_ret (v := .agg #[.bool s, .slice A1 (digs (x / 2 ^ k)).length c1, .int .i64 (y + k)]) (by simp [results, Tryz.results80, go_sem, f0, f1, r0, r1, r2]) rfl ?_
      refine yr_mk HM.out.symm HS.out HE.out.symm ?_ ?_
      · exact ((((HD.out.set_off HO1.out _ _).set_off HO2.out _ _).set_off HO2.out _ _).set_off HO2.out _ _)
      · exact ((((HB.out.setCell (by simp) _).setCell (by simp) _).setCell (by simp) _).setCell (by simp) _)
theorem row_c {w : World} {g i : Nat} {cs : Array Value} {T : TypeId} {fr : Nat × Nat} {v : Value} (h : w.heap[g]? = some (.cells cs T fr)) (hv : cs[i]? = some v) : w.cell? ⟨g, i, none⟩ = some v := (cell_of_row _ _ _ _ _ _ h).trans hv
theorem ly8z {w : World} {g : Nat} {T : TypeId} {a0 a1 a2 a3 a4 a5 a6 a7 : Value} (h : w.heap[g]? = some (.cells #[a0, a1, a2, a3, a4, a5, a6, a7] T (0, 0))) : w.cell? ⟨g, 0, none⟩ = some a0 ∧ w.frozen? ⟨g, 0, none⟩ = false ∧ w.cell? ⟨g, 1, none⟩ = some a1 ∧ w.frozen? ⟨g, 1, none⟩ = false ∧ w.cell? ⟨g, 2, none⟩ = some a2 ∧ w.frozen? ⟨g, 2, none⟩ = false ∧ w.cell? ⟨g, 3, none⟩ = some a3 ∧ w.frozen? ⟨g, 3, none⟩ = false ∧ w.cell? ⟨g, 4, none⟩ = some a4 ∧ w.frozen? ⟨g, 4, none⟩ = false ∧ w.cell? ⟨g, 5, none⟩ = some a5 ∧ w.frozen? ⟨g, 5, none⟩ = false ∧ w.cell? ⟨g, 6, none⟩ = some a6 ∧ w.frozen? ⟨g, 6, none⟩ = false ∧ w.cell? ⟨g, 7, none⟩ = some a7 ∧ w.frozen? ⟨g, 7, none⟩ = false ∧ g < w.heap.size := ⟨row_c (i := 0) h rfl, frozen_of_row _ _ 0 _ _ h, row_c (i := 1) h rfl, frozen_of_row _ _ 1 _ _ h, row_c (i := 2) h rfl, frozen_of_row _ _ 2 _ _ h, row_c (i := 3) h rfl, frozen_of_row _ _ 3 _ _ h, row_c (i := 4) h rfl, frozen_of_row _ _ 4 _ _ h, row_c (i := 5) h rfl, frozen_of_row _ _ 5 _ _ h, row_c (i := 6) h rfl, frozen_of_row _ _ 6 _ _ h, row_c (i := 7) h rfl, frozen_of_row _ _ 7 _ _ h, heap_lt h⟩
theorem ly9z {w : World} {g : Nat} {T : TypeId} {a0 a1 a2 a3 a4 a5 a6 a7 a8 : Value} (h : w.heap[g]? = some (.cells #[a0, a1, a2, a3, a4, a5, a6, a7, a8] T (0, 0))) : w.cell? ⟨g, 0, none⟩ = some a0 ∧ w.frozen? ⟨g, 0, none⟩ = false ∧ w.cell? ⟨g, 1, none⟩ = some a1 ∧ w.frozen? ⟨g, 1, none⟩ = false ∧ w.cell? ⟨g, 2, none⟩ = some a2 ∧ w.frozen? ⟨g, 2, none⟩ = false ∧ w.cell? ⟨g, 3, none⟩ = some a3 ∧ w.frozen? ⟨g, 3, none⟩ = false ∧ w.cell? ⟨g, 4, none⟩ = some a4 ∧ w.frozen? ⟨g, 4, none⟩ = false ∧ w.cell? ⟨g, 5, none⟩ = some a5 ∧ w.frozen? ⟨g, 5, none⟩ = false ∧ w.cell? ⟨g, 6, none⟩ = some a6 ∧ w.frozen? ⟨g, 6, none⟩ = false ∧ w.cell? ⟨g, 7, none⟩ = some a7 ∧ w.frozen? ⟨g, 7, none⟩ = false ∧ w.cell? ⟨g, 8, none⟩ = some a8 ∧ w.frozen? ⟨g, 8, none⟩ = false ∧ g < w.heap.size := ⟨row_c (i := 0) h rfl, frozen_of_row _ _ 0 _ _ h, row_c (i := 1) h rfl, frozen_of_row _ _ 1 _ _ h, row_c (i := 2) h rfl, frozen_of_row _ _ 2 _ _ h, row_c (i := 3) h rfl, frozen_of_row _ _ 3 _ _ h, row_c (i := 4) h rfl, frozen_of_row _ _ 4 _ _ h, row_c (i := 5) h rfl, frozen_of_row _ _ 5 _ _ h, row_c (i := 6) h rfl, frozen_of_row _ _ 6 _ _ h, row_c (i := 7) h rfl, frozen_of_row _ _ 7 _ _ h, row_c (i := 8) h rfl, frozen_of_row _ _ 8 _ _ h, heap_lt h⟩
theorem ly8f {w : World} {g : Nat} {T : TypeId} {a0 a1 a2 a3 a4 a5 a6 a7 : Value} (h : w.heap[g]? = some (.cells #[a0, a1, a2, a3, a4, a5, a6, a7] T (0, 0))) : w.cell? ⟨g, 0, none⟩ = some a0 ∧ w.cell? ⟨g, 1, none⟩ = some a1 ∧ w.cell? ⟨g, 2, none⟩ = some a2 ∧ w.cell? ⟨g, 3, none⟩ = some a3 ∧ w.cell? ⟨g, 4, none⟩ = some a4 ∧ w.cell? ⟨g, 5, none⟩ = some a5 ∧ w.cell? ⟨g, 6, none⟩ = some a6 ∧ w.cell? ⟨g, 7, none⟩ = some a7 ∧ g < w.heap.size := ⟨row_c (i := 0) h rfl, row_c (i := 1) h rfl, row_c (i := 2) h rfl, row_c (i := 3) h rfl, row_c (i := 4) h rfl, row_c (i := 5) h rfl, row_c (i := 6) h rfl, row_c (i := 7) h rfl, heap_lt h⟩
theorem ly9f {w : World} {g : Nat} {T : TypeId} {a0 a1 a2 a3 a4 a5 a6 a7 a8 : Value} (h : w.heap[g]? = some (.cells #[a0, a1, a2, a3, a4, a5, a6, a7, a8] T (0, 0))) : w.cell? ⟨g, 0, none⟩ = some a0 ∧ w.cell? ⟨g, 1, none⟩ = some a1 ∧ w.cell? ⟨g, 2, none⟩ = some a2 ∧ w.cell? ⟨g, 3, none⟩ = some a3 ∧ w.cell? ⟨g, 4, none⟩ = some a4 ∧ w.cell? ⟨g, 5, none⟩ = some a5 ∧ w.cell? ⟨g, 6, none⟩ = some a6 ∧ w.cell? ⟨g, 7, none⟩ = some a7 ∧ w.cell? ⟨g, 8, none⟩ = some a8 ∧ g < w.heap.size := ⟨row_c (i := 0) h rfl, row_c (i := 1) h rfl, row_c (i := 2) h rfl, row_c (i := 3) h rfl, row_c (i := 4) h rfl, row_c (i := 5) h rfl, row_c (i := 6) h rfl, row_c (i := 7) h rfl, row_c (i := 8) h rfl, heap_lt h⟩
theorem live_only {w0 w w' : World} {L : List (Option Addr × Nat × List Nat)} {g : Nat} {zs : Array Value} {T : TypeId} {fr : Nat × Nat} (hL : Live w0 w L) (ho : Only g w w') (hg : w.heap[g]? = some (.cells zs T fr)) (hz : ∀ (i : Nat) (n : Int), zs[i]? ≠ some (.int .u32 n)) (h0 : w0.heap.size ≤ g) : Live w0 w' L :=
  ⟨ho.below hL.1 h0, fun t ht => (hL.2 t ht).kept (ho.kept hg hz)⟩
theorem noint_int {A : Option Addr} {n c : Nat} {b : Bool} : ∀ (o : Nat) (m : Int), (#[Value.bool b, .slice A n c])[o]? ≠ some (.int .u32 m) := noint2'
theorem noint_re {x : Int} : ∀ (o : Nat) (m : Int), (#[Value.int .i64 x])[o]? ≠ some (.int .u32 m) := by
  intro o m; rcases o with _ | o <;> simp
theorem fin3 {w0 w : World} {L : List (Option Addr × Nat × List Nat)} {g : Nat} {zs : Array Value} {T : TypeId} {a b c : Value} (hL : Live w0 w L) (hg : w.heap[g]? = some (.cells zs T (0, 0))) (hz : ∀ (i : Nat) (n : Int), zs[i]? ≠ some (.int .u32 n)) (h0 : w0.heap.size ≤ g) :
    Live w0 (((w.setCell ⟨g, 0, none⟩ a).setCell ⟨g, 1, none⟩ b).setCell ⟨g, 2, none⟩ c) L := live_only hL ((((Only.refl g w).setCell 0 _).setCell 1 _).setCell 2 _) hg hz h0
theorem fin2 {w0 w : World} {L : List (Option Addr × Nat × List Nat)} {g : Nat} {zs : Array Value} {T : TypeId} {a b : Value} (hL : Live w0 w L) (hg : w.heap[g]? = some (.cells zs T (0, 0))) (hz : ∀ (i : Nat) (n : Int), zs[i]? ≠ some (.int .u32 n)) (h0 : w0.heap.size ≤ g) :
    Live w0 ((w.setCell ⟨g, 0, none⟩ a).setCell ⟨g, 1, none⟩ b) L := live_only hL (((Only.refl g w).setCell 0 _).setCell 1 _) hg hz h0
theorem keep_b {W w' : World} {g : Nat} (hb : Below W.heap.size W w') (hg : g < W.heap.size) : ∀ o, w'.cell? ⟨g, o, none⟩ = W.cell? ⟨g, o, none⟩ := fun o => hb.cell (p := ⟨g, o, none⟩) hg
theorem keep_set {W w' : World} {g r i : Nat} {v : Value} (h : ∀ o, w'.cell? ⟨g, o, none⟩ = W.cell? ⟨g, o, none⟩) (hne : g ≠ r) : ∀ o, (w'.setCell ⟨r, i, none⟩ v).cell? ⟨g, o, none⟩ = W.cell? ⟨g, o, none⟩ := fun o => by
  rw [World.cell?_setCell_other _ _ _ _ (by intro e; simp only [Addr.mk.injEq] at e; omega)]; exact h o
theorem sg_abs2 (z : Int) : sg (decide (z < 0)) z.natAbs = z := by
  unfold sg
  by_cases h : z < 0
  · rw [if_pos (by simpa using h)]; omega
  · rw [if_neg (by simpa using h)]; omega
theorem sg_dz (z : Int) : sg (decide (z < 0)) (val (digs z.natAbs)) = z := by rw [val_digs]; exact sg_abs2 z
theorem ly1 {w : World} {g : Nat} {T : TypeId} {a0 : Value} (h : w.heap[g]? = some (.cells #[a0] T (0, 0))) : w.cell? ⟨g, 0, none⟩ = some a0 ∧ w.frozen? ⟨g, 0, none⟩ = false ∧ g < w.heap.size := ⟨row_c (i := 0) h rfl, frozen_of_row _ _ 0 _ _ h, heap_lt h⟩
theorem ly2 {w : World} {g : Nat} {T : TypeId} {a0 a1 : Value} (h : w.heap[g]? = some (.cells #[a0, a1] T (0, 0))) : w.cell? ⟨g, 0, none⟩ = some a0 ∧ w.frozen? ⟨g, 0, none⟩ = false ∧ w.cell? ⟨g, 1, none⟩ = some a1 ∧ w.frozen? ⟨g, 1, none⟩ = false ∧ g < w.heap.size := ⟨row_c (i := 0) h rfl, frozen_of_row _ _ 0 _ _ h, row_c (i := 1) h rfl, frozen_of_row _ _ 1 _ _ h, heap_lt h⟩
theorem ly3 {w : World} {g : Nat} {T : TypeId} {a0 a1 a2 : Value} (h : w.heap[g]? = some (.cells #[a0, a1, a2] T (0, 0))) : w.cell? ⟨g, 0, none⟩ = some a0 ∧ w.frozen? ⟨g, 0, none⟩ = false ∧ w.cell? ⟨g, 1, none⟩ = some a1 ∧ w.frozen? ⟨g, 1, none⟩ = false ∧ w.cell? ⟨g, 2, none⟩ = some a2 ∧ w.frozen? ⟨g, 2, none⟩ = false ∧ g < w.heap.size := ⟨row_c (i := 0) h rfl, frozen_of_row _ _ 0 _ _ h, row_c (i := 1) h rfl, frozen_of_row _ _ 1 _ _ h, row_c (i := 2) h rfl, frozen_of_row _ _ 2 _ _ h, heap_lt h⟩
theorem new1 (w : World) (o0 : Obj) : ∃ W : World, W = (w.alloc o0) ∧ Below w.heap.size w W ∧ Hid (W.heap[w.heap.size]? = some o0) :=
  ⟨_, rfl, ((Below.refl _ _).alloc (by simp <;> omega) _), qH (by have := heap_alloc_new w o0; simpa using this)⟩
theorem new2 (w : World) (o0 o1 : Obj) : ∃ W : World, W = ((w.alloc o0).alloc o1) ∧ Below w.heap.size w W ∧ Hid (W.heap[w.heap.size]? = some o0) ∧ Hid (W.heap[w.heap.size + 1]? = some o1) :=
  ⟨_, rfl, (((Below.refl _ _).alloc (by simp <;> omega) _).alloc (by simp <;> omega) _), qH (by have := heap_alloc_new w o0; rw [heap_alloc_old _ _ (by simp <;> omega)]; simpa using this), qH (by have := heap_alloc_new (w.alloc o0) o1; simpa using this)⟩
theorem new3 (w : World) (o0 o1 o2 : Obj) : ∃ W : World, W = (((w.alloc o0).alloc o1).alloc o2) ∧ Below w.heap.size w W ∧ Hid (W.heap[w.heap.size]? = some o0) ∧ Hid (W.heap[w.heap.size + 1]? = some o1) ∧ Hid (W.heap[w.heap.size + 1 + 1]? = some o2) :=
  ⟨_, rfl, ((((Below.refl _ _).alloc (by simp <;> omega) _).alloc (by simp <;> omega) _).alloc (by simp <;> omega) _), qH (by have := heap_alloc_new w o0; rw [heap_alloc_old _ _ (by simp <;> omega)]; rw [heap_alloc_old _ _ (by simp <;> omega)]; simpa using this), qH (by have := heap_alloc_new (w.alloc o0) o1; rw [heap_alloc_old _ _ (by simp <;> omega)]; simpa using this), qH (by have := heap_alloc_new ((w.alloc o0).alloc o1) o2; simpa using this)⟩
theorem new4 (w : World) (o0 o1 o2 o3 : Obj) : ∃ W : World, W = ((((w.alloc o0).alloc o1).alloc o2).alloc o3) ∧ Below w.heap.size w W ∧ Hid (W.heap[w.heap.size]? = some o0) ∧ Hid (W.heap[w.heap.size + 1]? = some o1) ∧ Hid (W.heap[w.heap.size + 1 + 1]? = some o2) ∧ Hid (W.heap[w.heap.size + 1 + 1 + 1]? = some o3) :=
  ⟨_, rfl, (((((Below.refl _ _).alloc (by simp <;> omega) _).alloc (by simp <;> omega) _).alloc (by simp <;> omega) _).alloc (by simp <;> omega) _), qH (by have := heap_alloc_new w o0; rw [heap_alloc_old _ _ (by simp <;> omega)]; rw [heap_alloc_old _ _ (by simp <;> omega)]; rw [heap_alloc_old _ _ (by simp <;> omega)]; simpa using this), qH (by have := heap_alloc_new (w.alloc o0) o1; rw [heap_alloc_old _ _ (by simp <;> omega)]; rw [heap_alloc_old _ _ (by simp <;> omega)]; simpa using this), qH (by have := heap_alloc_new ((w.alloc o0).alloc o1) o2; rw [heap_alloc_old _ _ (by simp <;> omega)]; simpa using this), qH (by have := heap_alloc_new (((w.alloc o0).alloc o1).alloc o2) o3; simpa using this)⟩
theorem gl0 {w v : World} {L : List (Option Addr × Nat × List Nat)} (h : Live w v L) : w.heap.size ≤ v.heap.size := by have := h.1.size; omega
theorem nl0 {w : World} {g : Nat} {o : Obj} (h : w.heap[g]? = some o) : g < w.heap.size := by have := heap_lt h; omega
theorem gl1 {w v : World} {L : List (Option Addr × Nat × List Nat)} (h : Live w v L) : w.heap.size ≤ v.heap.size + 1 := by have := h.1.size; omega
theorem nl1 {w : World} {g : Nat} {o : Obj} (h : w.heap[g]? = some o) : g < w.heap.size + 1 := by have := heap_lt h; omega
theorem gl2 {w v : World} {L : List (Option Addr × Nat × List Nat)} (h : Live w v L) : w.heap.size ≤ v.heap.size + 1 + 1 := by have := h.1.size; omega
theorem gl3 {w v : World} {L : List (Option Addr × Nat × List Nat)} (h : Live w v L) : w.heap.size ≤ v.heap.size + 1 + 1 + 1 := by have := h.1.size; omega
theorem co {w w' : World} {g : Nat} {cs : Array Value} {t : TypeId} {fr : Nat × Nat} (hg : Hid (w.heap[g]? = some (.cells cs t fr))) (hb : Below w.heap.size w w') : Hid (w'.heap[g]? = some (.cells cs t fr)) := qH (cells_of hg.out hb)
theorem ls {w v v' : World} {L : List (Option Addr × Nat × List Nat)} (h : Hid (Live w v L)) (hb : Below v.heap.size v v') : Hid (Live w v' L) := qH (h.out.step hb)
theorem la {w v v' : World} {L : List (Option Addr × Nat × List Nat)} {A : Option Addr} {c : Nat} {xs : List Nat} (h : Hid (Live w v L)) (hb : Below v.heap.size v v') (hd : Dg v' A c xs) : Hid (Live w v' ((A, c, xs) :: L)) := qH ((h.out.step hb).add hd)
theorem bt {a b c : World} (h : Hid (Below a.heap.size a b)) (hb : Below b.heap.size b c) : Hid (Below a.heap.size a c) := qH (h.out.trans (hb.mono h.out.size))
theorem noint_dy {A : Option Addr} {n c : Nat} {b : Bool} {x : Int} : ∀ (o : Nat) (m : Int), (#[Value.bool b, .slice A n c, .int .i64 x])[o]? ≠ some (.int .u32 m) := noint3
theorem t32_live {w0 w : World} {L : List (Option Addr × Nat × List Nat)} (h : T32 w0) (hL : Live w0 w L) : T32 w := t32_below h hL.1
def Yb (M E : Int) (q : Bool) (w : World) (e : Ending) (w' : World) : Prop := ∃ A c, e = .returned (.tuple #[.agg #[.bool (decide (M < 0)), .slice A (digs M.natAbs).length c, .int .i64 E], .bool q]) ∧ Dg w' A c (digs M.natAbs) ∧ Below w.heap.size w w'
def Ye (M E k : Int) (w : World) (e : Ending) (w' : World) : Prop := ∃ A c, e = .returned (.tuple #[.agg #[.bool (decide (M < 0)), .slice A (digs M.natAbs).length c, .int .i64 E], .int .i64 k]) ∧ Dg w' A c (digs M.natAbs) ∧ Below w.heap.size w w'
theorem nm_len (z : Int) : (digs (nm z).natAbs).length ≤ (digs z.natAbs).length := by
  by_cases h : z = 0
  · subst h; exact Nat.le_refl _
  · have ⟨_, _, c⟩ := nm_back h
    rw [c]; exact digs_len_mono _ _ (Nat.div_le_self _ _)
theorem zero_ye {k : Int} {w w' : World} (h : Below w.heap.size w w') : Ye 0 0 k w (.returned (.tuple #[.agg #[.bool false, .slice none 0 0, .int .i64 0], .int .i64 k])) w' := by
  refine ⟨none, 0, ?_, ?_, h⟩
  · show _ = Ending.returned (.tuple #[.agg #[.bool false, .slice none (digs 0).length 0, .int .i64 0], .int .i64 k])
    rw [digs_zero]; rfl
  · show Dg _ none 0 (digs 0)
    rw [digs_zero]; exact Dg.nil_ _ _
theorem zero_yr {w w' : World} (h : Below w.heap.size w w') : Yr 0 0 w (.returned (.agg #[.bool false, .slice none 0 0, .int .i64 0])) w' := by
  refine ⟨none, 0, ?_, ?_, h⟩
  · show _ = Ending.returned (.agg #[.bool false, .slice none (digs 0).length 0, .int .i64 0])
    rw [digs_zero]; rfl
  · show Dg _ none 0 (digs 0)
    rw [digs_zero]; exact Dg.nil_ _ _
def Rt (m e : Int) : Prop := Nf m e ∧ -131072 ≤ e ∧ e ≤ 131072
theorem dyR_num {m e : Int} (h : Rt m e) : dyR (decide (m < 0)) (digs m.natAbs) e = true := by
  obtain ⟨hn, h0, h1⟩ := h
  unfold dyR
  rcases hn with ⟨rfl, rfl⟩ | hn
  · show (if (digs 0).length = 0 then _ else _) = true
    rw [digs_zero]; rfl
  · have hm : m.natAbs ≠ 0 := by omega
    have hl : (digs m.natAbs).length ≠ 0 := fun e => hm (digs_nil.1 e)
    rw [if_neg hl, decide_eq_true h0, decide_eq_true h1]
    have h2 : rightB (decide (m < 0)) (digs m.natAbs) = true := by
      unfold rightB
      rw [if_neg hl, decide_eq_true_eq]
      have hne : (digs m.natAbs).getLast? = (digs m.natAbs)[(digs m.natAbs).length - 1]? := List.getLast?_eq_getElem?
      rcases hd : (digs m.natAbs)[(digs m.natAbs).length - 1]? with _ | d
      · rw [List.getElem?_eq_none_iff] at hd; omega
      · exact last_digs (by rw [hne, hd]; rfl)
    have h3 : decide ((digs m.natAbs)[0]?.getD 0 % 2 = 1) = true := by
      rw [digs_pos hm, decide_eq_true_eq]
      simp only [gZy, Option.getD_some]
      omega
    rw [h2, h3]; rfl
theorem begin_1 {w : World} {g : Nat} {A : Option Addr} {c : Nat} {s q : Bool} {xs : List Nat} {e : Int} {T : TypeId} (hR : w.heap[g]? = some (.cells #[.bool s, .slice A xs.length c, .int .i64 e] T (0, 0))) (h : Dg w A c xs) (hq : dyR s xs e = q) (hl : xs.length ≤ 9223372036854775807) {k : Int} (hk : (if q then 0 else 1) = k) :
    Calls Tryz.prog 59 #[.slice (some ⟨g, 0, none⟩) 1 1] w fun e w' => e = .returned (.agg #[.int .i64 k]) ∧ Below w.heap.size w w' := by
  have := begin_any g 1 1 (fun _ => s) (fun _ => A) (fun _ => c) (fun _ => xs) (fun _ => e) (fun _ => q) w (heap_lt hR) (fun i hi => by
    obtain rfl : i = 0 := by omega
    exact ⟨row_c hR rfl, row_c hR rfl, row_c hR rfl, h⟩) (fun _ _ => hq) (fun _ _ => hl) (by omega) (Nat.le_refl _)
  have e : wrong (fun _ => q) 1 = k := by rw [← hk]; cases q <;> rfl
  rw [e] at this; exact this
def pk {α : Type} (a b : α) : Nat → α
  | 0 => a
  | _ => b
theorem begin_2 {w : World} {g : Nat} {A B : Option Addr} {c d : Nat} {s r q p : Bool} {xs ys : List Nat} {e f : Int} {T : TypeId} (hR : w.heap[g]? = some (.cells #[.bool s, .slice A xs.length c, .int .i64 e, .bool r, .slice B ys.length d, .int .i64 f] T (0, 0))) (h : Dg w A c xs) (h' : Dg w B d ys) (hq : dyR s xs e = q) (hp : dyR r ys f = p) (hl : xs.length ≤ 9223372036854775807) (hl' : ys.length ≤ 9223372036854775807) {k : Int} (hk : (if q && p then 0 else 1) = k) :
    Calls Tryz.prog 59 #[.slice (some ⟨g, 0, none⟩) 2 2] w fun e w' => e = .returned (.agg #[.int .i64 k]) ∧ Below w.heap.size w w' := by
  have := begin_any g 2 2 (pk s r) (pk A B) (pk c d) (pk xs ys) (pk e f) (pk q p) w (heap_lt hR) (fun i hi => by
    rcases i with _ | i
    · exact ⟨row_c hR rfl, row_c hR rfl, row_c hR rfl, h⟩
    · obtain rfl : i = 0 := by omega
      exact ⟨row_c hR rfl, row_c hR rfl, row_c hR rfl, h'⟩) (fun i _ => by rcases i with _ | i; exact hq; exact hp) (fun i _ => by rcases i with _ | i; exact hl; exact hl') (by omega) (Nat.le_refl _)
  have e : wrong (pk q p) 2 = k := by rw [← hk]; cases q <;> cases p <;> rfl
  rw [e] at this; exact this
theorem ret_ib {a b : Int} {p q : Bool} (h : a = b) (h' : p = q) : Ending.returned (.tuple #[.int .i64 a, .bool p]) = .returned (.tuple #[.int .i64 b, .bool q]) := by rw [h, h']
theorem wrap_i64_eq (x : Int) (h : -9223372036854775808 ≤ x) (h' : x ≤ 9223372036854775807) : IntKind.i64.wrap x = x := IntWalk.i64_in _ ⟨h, h'⟩
theorem turn_u64 (x : Nat) (h : 0 < x) (h' : x ≤ 9223372036854775808) : wrap64 (IntKind.u64.wrap (-(x : Int))) = -(x : Int) := by
  rw [wrap_u64_eq]; unfold wrap64; omega
theorem zsmall_neg (A : Option Addr) (c : Nat) (s : Bool) (xs : List Nat) (w : World) (h : Dg w A c xs) (hl : xs.length ≤ 1000000) (hz : s = true) (h0 : 0 < val xs) (h1 : val xs ≤ 9223372036854775808) :
    Calls Tryz.prog 97 #[.agg #[.bool s, .slice A xs.length c]] w fun e w' => e = .returned (.tuple #[.int .i64 (-(val xs : Int)), .bool true]) ∧ Below w.heap.size w w' := by
  have l1 := digs_len_le h.2.1
  obtain ⟨t1, ht1⟩ : ∃ t, (s && decide (0 < val xs)) = t := ⟨_, rfl⟩
  have TA := qH (fun W h => take_any A c s xs W h (by omega))
  have HC := qH (fun A1 c1 W h1 => small_any A1 c1 (digs (val xs)) W h1 (by omega))
  simp only [val_digs] at HC
  have e1 : (s && decide (0 < val xs)) = true := by rw [hz, decide_eq_true h0]; rfl
  rw [e1] at ht1
  rw [e1] at TA
  have hs : small? (val xs) = val xs := by unfold small?; rw [if_pos (by omega)]
  have hd : decide (val xs < 18446744073709551616) = true := decide_eq_true (by omega)
  rw [hs, hd] at HC
  have dd : decide (((val xs : Nat) : Int) ≤ 9223372036854775808) = true := by simp; omega
  have HT := qH (turn_u64 (val xs) h0 h1)
  clear hs hd e1 h0 h1 hz
  clear ht1
  generalize val xs = x at *
  go_enter Tryz.func97, Tryz.ntmps97
  go_wp2_with fail
  refine (TA.out _ (h.below (below1 _ _))).mono ?_
  rintro e w1 ⟨A1, c1, rfl, hd, hb⟩
  have K1 := qH hb
  have G1 := qH hd
  obtain ⟨hc1, hf1⟩ := bcell hb
  clear hb hd h
  go_wp2_with fail
  refine (HC.out A1 c1 _ (G1.out.below (below1 _ _))).mono ?_
  rintro e w2 ⟨rfl, nn, rfl⟩
  go_wp2
  go_ret2
  exact ⟨ret_ib HT.out rfl, below_drewN (((below1 w _).trans (K1.out.mono (by simp))).alloc (by have := K1.out.size; simp at this; omega) _) _⟩
theorem zsmall_pos (A : Option Addr) (c : Nat) (s : Bool) (xs : List Nat) (w : World) (h : Dg w A c xs) (hl : xs.length ≤ 1000000) (hz : (s && decide (0 < val xs)) = false) (h1 : val xs ≤ 9223372036854775807) :
    Calls Tryz.prog 97 #[.agg #[.bool s, .slice A xs.length c]] w fun e w' => e = .returned (.tuple #[.int .i64 ((val xs : Nat) : Int), .bool true]) ∧ Below w.heap.size w w' := by
  have l1 := digs_len_le h.2.1
  obtain ⟨t1, ht1⟩ : ∃ t, (s && decide (0 < val xs)) = t := ⟨_, rfl⟩
  have TA := qH (fun W h => take_any A c s xs W h (by omega))
  have HC := qH (fun A1 c1 W h1 => small_any A1 c1 (digs (val xs)) W h1 (by omega))
  simp only [val_digs] at HC
  rw [hz] at ht1
  rw [hz] at TA
  have hs : small? (val xs) = val xs := by unfold small?; rw [if_pos (by omega)]
  have hd : decide (val xs < 18446744073709551616) = true := decide_eq_true (by omega)
  rw [hs, hd] at HC
  have dd : decide (((val xs : Nat) : Int) ≤ 9223372036854775807) = true := by simp; omega
  have HT := qH (wrap_i64_eq (val xs) (by omega) (by omega))
  clear hs hd hz
  clear ht1
  generalize val xs = x at *
  go_enter Tryz.func97, Tryz.ntmps97
  go_wp2_with fail
  refine (TA.out _ (h.below (below1 _ _))).mono ?_
  rintro e w1 ⟨A1, c1, rfl, hd, hb⟩
  have K1 := qH hb
  have G1 := qH hd
  obtain ⟨hc1, hf1⟩ := bcell hb
  clear hb hd h
  go_wp2_with fail
  refine (HC.out A1 c1 _ (G1.out.below (below1 _ _))).mono ?_
  rintro e w2 ⟨rfl, nn, rfl⟩
  go_wp2
  go_ret2
  exact ⟨rfl, below_drewN (((below1 w _).trans (K1.out.mono (by simp))).alloc (by have := K1.out.size; simp at this; omega) _) _⟩
theorem zsmall_far (A : Option Addr) (c : Nat) (s : Bool) (xs : List Nat) (w : World) (h : Dg w A c xs) (hl : xs.length ≤ 1000000) (h1 : 18446744073709551616 ≤ val xs) :
    Calls Tryz.prog 97 #[.agg #[.bool s, .slice A xs.length c]] w fun e w' => e = .returned (.tuple #[.int .i64 0, .bool false]) ∧ Below w.heap.size w w' := by
  have l1 := digs_len_le h.2.1
  obtain ⟨t1, ht1⟩ : ∃ t, (s && decide (0 < val xs)) = t := ⟨_, rfl⟩
  have TA := qH (fun W h => take_any A c s xs W h (by omega))
  have HC := qH (fun A1 c1 W h1 => small_any A1 c1 (digs (val xs)) W h1 (by omega))
  simp only [val_digs] at HC
  rw [ht1] at TA
  have hd : decide (val xs < 18446744073709551616) = false := decide_eq_false (by omega)
  rw [hd] at HC
  clear hd
  clear ht1
  generalize val xs = x at *
  go_enter Tryz.func97, Tryz.ntmps97
  go_wp2_with fail
  refine (TA.out _ (h.below (below1 _ _))).mono ?_
  rintro e w1 ⟨A1, c1, rfl, hd, hb⟩
  have K1 := qH hb
  have G1 := qH hd
  obtain ⟨hc1, hf1⟩ := bcell hb
  clear hb hd h
  go_wp2_with fail
  refine (HC.out A1 c1 _ (G1.out.below (below1 _ _))).mono ?_
  rintro e w2 ⟨rfl, nn, rfl⟩
  go_wp2
  go_ret2
  exact ⟨rfl, below_drewN (((below1 w _).trans (K1.out.mono (by simp))).alloc (by have := K1.out.size; simp at this; omega) _) _⟩
theorem zsmall_negfar (A : Option Addr) (c : Nat) (s : Bool) (xs : List Nat) (w : World) (h : Dg w A c xs) (hl : xs.length ≤ 1000000) (hz : s = true) (h0 : 9223372036854775808 < val xs) (h1 : val xs < 18446744073709551616) :
    Calls Tryz.prog 97 #[.agg #[.bool s, .slice A xs.length c]] w fun e w' => e = .returned (.tuple #[.int .i64 0, .bool false]) ∧ Below w.heap.size w w' := by
  have l1 := digs_len_le h.2.1
  obtain ⟨t1, ht1⟩ : ∃ t, (s && decide (0 < val xs)) = t := ⟨_, rfl⟩
  have TA := qH (fun W h => take_any A c s xs W h (by omega))
  have HC := qH (fun A1 c1 W h1 => small_any A1 c1 (digs (val xs)) W h1 (by omega))
  simp only [val_digs] at HC
  have e1 : (s && decide (0 < val xs)) = true := by rw [hz, decide_eq_true (by omega)]; rfl
  rw [e1] at ht1
  rw [e1] at TA
  have hs : small? (val xs) = val xs := by unfold small?; rw [if_pos (by omega)]
  have hd : decide (val xs < 18446744073709551616) = true := decide_eq_true (by omega)
  rw [hs, hd] at HC
  have dd : decide (((val xs : Nat) : Int) ≤ 9223372036854775808) = false := by simp; omega
  clear hs hd e1 h0 h1 hz
  clear ht1
  generalize val xs = x at *
  go_enter Tryz.func97, Tryz.ntmps97
  go_wp2_with fail
  refine (TA.out _ (h.below (below1 _ _))).mono ?_
  rintro e w1 ⟨A1, c1, rfl, hd, hb⟩
  have K1 := qH hb
  have G1 := qH hd
  obtain ⟨hc1, hf1⟩ := bcell hb
  clear hb hd h
  go_wp2_with fail
  refine (HC.out A1 c1 _ (G1.out.below (below1 _ _))).mono ?_
  rintro e w2 ⟨rfl, nn, rfl⟩
  go_wp2
  go_ret2
  exact ⟨rfl, below_drewN (((below1 w _).trans (K1.out.mono (by simp))).alloc (by have := K1.out.size; simp at this; omega) _) _⟩
theorem zsmall_posfar (A : Option Addr) (c : Nat) (s : Bool) (xs : List Nat) (w : World) (h : Dg w A c xs) (hl : xs.length ≤ 1000000) (hz : (s && decide (0 < val xs)) = false) (h0 : 9223372036854775807 < val xs) (h1 : val xs < 18446744073709551616) :
    Calls Tryz.prog 97 #[.agg #[.bool s, .slice A xs.length c]] w fun e w' => e = .returned (.tuple #[.int .i64 0, .bool false]) ∧ Below w.heap.size w w' := by
  have l1 := digs_len_le h.2.1
  obtain ⟨t1, ht1⟩ : ∃ t, (s && decide (0 < val xs)) = t := ⟨_, rfl⟩
  have TA := qH (fun W h => take_any A c s xs W h (by omega))
  have HC := qH (fun A1 c1 W h1 => small_any A1 c1 (digs (val xs)) W h1 (by omega))
  simp only [val_digs] at HC
  rw [hz] at ht1
  rw [hz] at TA
  have hs : small? (val xs) = val xs := by unfold small?; rw [if_pos (by omega)]
  have hd : decide (val xs < 18446744073709551616) = true := decide_eq_true (by omega)
  rw [hs, hd] at HC
  have dd : decide (((val xs : Nat) : Int) ≤ 9223372036854775807) = false := by simp; omega
  clear hs hd hz
  clear ht1
  generalize val xs = x at *
  go_enter Tryz.func97, Tryz.ntmps97
  go_wp2_with fail
  refine (TA.out _ (h.below (below1 _ _))).mono ?_
  rintro e w1 ⟨A1, c1, rfl, hd, hb⟩
  have K1 := qH hb
  have G1 := qH hd
  obtain ⟨hc1, hf1⟩ := bcell hb
  clear hb hd h
  go_wp2_with fail
  refine (HC.out A1 c1 _ (G1.out.below (below1 _ _))).mono ?_
  rintro e w2 ⟨rfl, nn, rfl⟩
  go_wp2
  go_ret2
  exact ⟨rfl, below_drewN (((below1 w _).trans (K1.out.mono (by simp))).alloc (by have := K1.out.size; simp at this; omega) _) _⟩
def smallz (z : Int) : Int := if -9223372036854775808 ≤ z ∧ z ≤ 9223372036854775807 then z else 0
def smallb (z : Int) : Bool := decide (-9223372036854775808 ≤ z ∧ z ≤ 9223372036854775807)
theorem zsmall_any (A : Option Addr) (c : Nat) (s : Bool) (xs : List Nat) (w : World) (h : Dg w A c xs) (hl : xs.length ≤ 1000000) (q : Int) (ok : Bool) (hq : smallz (sg s (val xs)) = q) (hok : smallb (sg s (val xs)) = ok) :
    Calls Tryz.prog 97 #[.agg #[.bool s, .slice A xs.length c]] w fun e w' => e = .returned (.tuple #[.int .i64 q, .bool ok]) ∧ Below w.heap.size w w' := by
  subst hq hok
  rcases Nat.lt_or_ge (val xs) 18446744073709551616 with h1 | h1
  · cases ht : (s && decide (0 < val xs))
    · have e : sg s (val xs) = (val xs : Int) := by
        rw [← sg_take, ht]; rfl
      rw [e]
      rcases Nat.lt_or_ge 9223372036854775807 (val xs) with h2 | h2
      · refine (zsmall_posfar A c s xs w h hl ht h2 h1).mono fun e w' ⟨he, hb⟩ => ⟨he.trans ?_, hb⟩
        exact ret_ib (by unfold smallz; rw [if_neg (by omega)]) (by unfold smallb; exact (decide_eq_false (by omega)).symm)
      · refine (zsmall_pos A c s xs w h hl ht h2).mono fun e w' ⟨he, hb⟩ => ⟨he.trans ?_, hb⟩
        exact ret_ib (by unfold smallz; rw [if_pos (by omega)]) (by unfold smallb; exact (decide_eq_true (by omega)).symm)
    · have e : sg s (val xs) = -(val xs : Int) := by
        rw [← sg_take, ht]; rfl
      simp only [Bool.and_eq_true, decide_eq_true_eq] at ht
      rw [e]
      rcases Nat.lt_or_ge 9223372036854775808 (val xs) with h2 | h2
      · refine (zsmall_negfar A c s xs w h hl ht.1 h2 h1).mono fun e w' ⟨he, hb⟩ => ⟨he.trans ?_, hb⟩
        exact ret_ib (by unfold smallz; rw [if_neg (by omega)]) (by unfold smallb; exact (decide_eq_false (by omega)).symm)
      · refine (zsmall_neg A c s xs w h hl ht.1 ht.2 h2).mono fun e w' ⟨he, hb⟩ => ⟨he.trans ?_, hb⟩
        exact ret_ib (by unfold smallz; rw [if_pos (by omega)]) (by unfold smallb; exact (decide_eq_true (by omega)).symm)
  · have e : sg s (val xs) = (val xs : Int) ∨ sg s (val xs) = -(val xs : Int) := by unfold sg; cases s <;> simp
    refine (zsmall_far A c s xs w h hl h1).mono fun e' w' ⟨he, hb⟩ => ⟨he.trans ?_, hb⟩
    exact ret_ib (by unfold smallz; rw [if_neg (by omega)]) (by unfold smallb; exact (decide_eq_false (by omega)).symm)
theorem make_yes (A : Option Addr) (c : Nat) (s : Bool) (xs : List Nat) (y M E : Int) (w : World) (h : Dg w A c xs) (hl : xs.length ≤ 400000) (hT : T32 w) (hy0 : -100000 ≤ y) (hy1 : y ≤ 100000) (hM : nm (sg s (val xs)) = M) (hE : nx (sg s (val xs)) y = E) (hq : inR M E = true):
    Calls Tryz.prog 82 #[.agg #[.bool s, .slice A xs.length c], .int .i64 y] w fun e w' => Yb M E true w e w' := by
  have l1 := digs_len_le h.2.1
  have MK := qH (fun W (hW : Dg W A c xs) => zmake_any A c s xs W hW (by omega))
  obtain ⟨z, hz⟩ : ∃ z, sg s (val xs) = z := ⟨_, rfl⟩
  have hzl : (digs z.natAbs).length ≤ 400000 := by rw [← hz, sg_abs]; omega
  rw [hz] at MK hM hE
  have hml := nm_len z
  rw [hM] at hml
  have LZ := qH hzl
  have LM := qH (show (digs M.natAbs).length ≤ 400000 by omega)
  have HM := qH (show nm (sg (decide (z < 0)) z.natAbs) = M by rw [sg_abs2]; exact hM)
  have HE := qH (show nx (sg (decide (z < 0)) z.natAbs) y = E by rw [sg_abs2]; exact hE)
  have HQ := qH hq
  have d1 : decide (y < -100000) = false := by simp; omega
  have d2 : decide (100000 < y) = false := by simp; omega
  have HT := qH hT
  clear hT
  have L0 := qH ((live_start w).add h)
  clear h hz hzl hM hE hml hq l1
  go_enter Tryz.func82, Tryz.ntmps82
  go_wp2_with fail
  obtain ⟨v1, hW⟩ : ∃ W : World, W = ((w.alloc (.cells #[.bool s, .slice A xs.length c] 24)).alloc (.cells #[.bool false, .slice none 0 0, .int .i64 0] 26)) := ⟨_, rfl⟩
  rw [← hW]
  have hb : Below w.heap.size w v1 := by rw [hW]; exact (((Below.refl _ _).alloc (by simp <;> omega) _).alloc (by simp <;> omega) _)
  have L1 := qH (L0.out.step hb)
  have Rm_1 := qH (show v1.heap[w.heap.size]? = some (.cells #[.bool s, .slice A xs.length c] 24 (0, 0)) by rw [hW]; have := heap_alloc_new w (.cells #[.bool s, .slice A xs.length c] 24); rw [heap_alloc_old _ _ (by simp <;> omega)]; simpa using this)
  have Gm : w.heap.size ≤ w.heap.size := by have := L0.out.1.size; omega
  have Rr_1 := qH (show v1.heap[w.heap.size + 1]? = some (.cells #[.bool false, .slice none 0 0, .int .i64 0] 26 (0, 0)) by rw [hW]; have := heap_alloc_new (w.alloc (.cells #[.bool s, .slice A xs.length c] 24)) (.cells #[.bool false, .slice none 0 0, .int .i64 0] 26); simpa using this)
  have Gr : w.heap.size ≤ w.heap.size + 1 := by have := L0.out.1.size; omega
  have Nmr : w.heap.size < w.heap.size + 1 := by omega
  clear hW hb
  refine (MK.out _ (L1.out.get (A := A) (c := c) (xs := xs) (by simp))).mono ?_
  rintro e w2 ⟨A2, c2, rfl, hd, hb⟩
  have L2 := qH ((L1.out.step hb).add hd)
  have Rm_2 := qH (cells_of Rm_1.out hb)
  have Rr_2 := qH (cells_of Rr_1.out hb)
  clear hb hd
  have fm0 := row_c (i := 0) Rm_2.out rfl
  have zm0 := frozen_of_row _ _ 0 _ _ Rm_2.out
  have fm1 := row_c (i := 1) Rm_2.out rfl
  have zm1 := frozen_of_row _ _ 1 _ _ Rm_2.out
  have xm := heap_lt Rm_2.out
  go_wp2_with fail
  refine (odd_any A2 c2 (decide (z < 0)) z.natAbs y M E _ (L2.out.get (A := A2) (c := c2) (xs := digs z.natAbs) (by simp)) (Nat.le_trans LZ.out (by omega)) (t32_live HT.out L2.out) ⟨by omega, by omega⟩ HM.out HE.out).mono ?_
  rintro e w3 ⟨A3, c3, rfl, hd, hb⟩
  have L3 := qH ((L2.out.step hb).add hd)
  clear fm0 zm0 fm1 zm1 xm
  have Rm_3 := qH (cells_of Rm_2.out hb)
  have Rr_3 := qH (cells_of Rr_2.out hb)
  clear hb hd
  go_wp2_with fail
  obtain ⟨w4, hW⟩ : ∃ W : World, W = (w3.alloc (.cells #[.bool (decide (M < 0)), .slice A3 (digs M.natAbs).length c3, .int .i64 E] 26)) := ⟨_, rfl⟩
  rw [← hW]
  have hb : Below w3.heap.size w3 w4 := by rw [hW]; exact ((Below.refl _ _).alloc (by simp <;> omega) _)
  have L4 := qH (L3.out.step hb)
  have Rm_4 := qH (cells_of Rm_3.out hb)
  have Rr_4 := qH (cells_of Rr_3.out hb)
  have Rx_4 := qH (show w4.heap[w3.heap.size]? = some (.cells #[.bool (decide (M < 0)), .slice A3 (digs M.natAbs).length c3, .int .i64 E] 26 (0, 0)) by rw [hW]; have := heap_alloc_new w3 (.cells #[.bool (decide (M < 0)), .slice A3 (digs M.natAbs).length c3, .int .i64 E] 26); simpa using this)
  have Gx : w.heap.size ≤ w3.heap.size := by have := L3.out.1.size; omega
  have Nmx : w.heap.size < w3.heap.size := by have := heap_lt Rm_3.out; omega
  have Nrx : w.heap.size + 1 < w3.heap.size := by have := heap_lt Rr_3.out; omega
  clear hW hb
  refine (inRange_any A3 c3 (decide (M < 0)) M E _ (L4.out.get (A := A3) (c := c3) (xs := digs M.natAbs) (by simp)) true HQ.out (Nat.le_trans LM.out (by omega))).mono ?_
  rintro e w5 ⟨rfl, hb⟩
  have L5 := qH (L4.out.step hb)
  have Rm_5 := qH (cells_of Rm_4.out hb)
  have Rr_5 := qH (cells_of Rr_4.out hb)
  have Rx_5 := qH (cells_of Rx_4.out hb)
  clear hb 
  have fx0 := row_c (i := 0) Rx_5.out rfl
  have zx0 := frozen_of_row _ _ 0 _ _ Rx_5.out
  have fx1 := row_c (i := 1) Rx_5.out rfl
  have zx1 := frozen_of_row _ _ 1 _ _ Rx_5.out
  have fx2 := row_c (i := 2) Rx_5.out rfl
  have zx2 := frozen_of_row _ _ 2 _ _ Rx_5.out
  have xx := heap_lt Rx_5.out
  have fr0 := row_c (i := 0) Rr_5.out rfl
  have zr0 := frozen_of_row _ _ 0 _ _ Rr_5.out
  have fr1 := row_c (i := 1) Rr_5.out rfl
  have zr1 := frozen_of_row _ _ 1 _ _ Rr_5.out
  have fr2 := row_c (i := 2) Rr_5.out rfl
  have zr2 := frozen_of_row _ _ 2 _ _ Rr_5.out
  have xr := heap_lt Rr_5.out
  go_wp2
  refine bodyPost_ret (v := .tuple #[.agg #[.bool (decide (M < 0)), .slice A3 (digs M.natAbs).length c3, .int .i64 E], .bool true]) (by simp [results, Tryz.results82, go_sem, fx0, fx1, fx2, fr0, fr1, fr2]) rfl ?_
  refine ⟨A3, c3, rfl, ?_, ?_⟩
  · exact (fin3 L5.out Rr_5.out noint3 Gr).get (A := A3) (c := c3) (xs := digs M.natAbs) (by simp)
  · exact (fin3 L5.out Rr_5.out noint3 Gr).1
theorem elem8_info : (Tryz.prog.info? 5).map (fun i => (i.zero, i.size, i.bytes)) = some (some (.int .u8 0), 1, 1) := by kernel_rfl
def d4 (x : Nat) : List UInt8 := [UInt8.ofNat x, UInt8.ofNat (x / 256), UInt8.ofNat (x / 65536), UInt8.ofNat (x / 16777216)]
def lay4 (xs : List Nat) : List UInt8 := xs.flatMap d4
theorem lay4_len (xs : List Nat) : (lay4 xs).length = 4 * xs.length := by
  unfold lay4
  induction xs with
  | nil => rfl
  | cons x xs ih => rw [List.flatMap_cons, List.length_append, ih]; simp [d4]; omega
theorem lay4_take {xs : List Nat} {k : Nat} (hk : k < xs.length) : lay4 (xs.take (k + 1)) = lay4 (xs.take k) ++ d4 (xs[k]?.getD 0) := by
  unfold lay4
  rw [take_one hk, List.flatMap_append]
  simp
theorem four_new {w : World} {a b c d : Value} {T : TypeId} {j : Nat} {u : Value} (hj : [a, b, c, d][j]? = some u) : (w.alloc (.cells #[a, b, c, d] T)).cell? ((⟨w.heap.size, 0, none⟩ : Addr).add j) = some u := by
  rw [Addr.add_lit, Nat.zero_add, cell_of_row _ _ _ _ _ _ (heap_alloc_new w _)]
  simpa using hj
theorem d4_cells {x : Nat} {X : Int} (h : (x : Int) = X) (hx : x < 4294967296) : Lib.byteCells (d4 x) = [.int .u8 (X % 256), .int .u8 (X / 256 % 256), .int .u8 (X / 65536 % 256), .int .u8 (X / 16777216)] := by
  subst h
  unfold Lib.byteCells d4
  simp
  omega
theorem byteCells_add (a b : List UInt8) : Lib.byteCells (a ++ b) = Lib.byteCells a ++ Lib.byteCells b := by simp [Lib.byteCells]
theorem lay_any (base : Nat) (v : Value) (n : Nat) (bs : List UInt8) (D : Option Addr) (d : Nat) (xs : List Nat) (w : World) (hown : w.ownsRow base 5 1 v n (Lib.byteCells bs)) (h : Dg w D d xs)
    (hB : 0 < xs.length → ∀ b o, D = some ⟨b, o, none⟩ → b < base) (hbase : base ≤ w.heap.size) (hl : n + 4 * xs.length ≤ 1000000) :
    Calls Tryz.prog 93 #[v, .slice D xs.length d] w fun e w' => ∃ v', e = .returned v' ∧ w'.ownsRow base 5 1 v' (n + 4 * xs.length) (Lib.byteCells (bs ++ lay4 xs)) ∧ Below base w w' := by
  obtain ⟨i0, hi, hz0, hz1, hz2⟩ := info_parts elem8_info
  have H := qH h
  have HO := qH hown
  have HBB := qH hB
  clear h hown hB
  have hl1 : xs.length ≤ 250000 := by omega
  go_enter Tryz.func93, Tryz.ntmps93
  go_wp2
  go_loopw [0, 9] (fun v i wr => ∃ k : Nat, k ≤ xs.length ∧ i = .int .i64 k ∧ Hid (wr.ownsRow base 5 1 v (n + 4 * k) (Lib.byteCells (bs ++ lay4 (xs.take k)))) ∧ Hid (Below base w wr)) (fun _ i _ => xs.length - (intOf i).toNat)
  case atStart => exact ⟨0, Nat.zero_le _, rfl, qH (by simpa [lay4] using HO.out), qH (Below.refl _ _)⟩
  case round =>
    obtain ⟨k, hk, rfl, ho, hb⟩ := hrel
    by_cases hlt : k < xs.length
    · obtain ⟨b, off, hD, hbl, hcell⟩ := H.out.2.2 (by omega)
      have hc := (hb.out.cell (p := ⟨b, off + k, none⟩) (HBB.out (by omega) b off hD)).trans (hcell k hlt)
      have hx := getD_lt H.out.2.1 k
      have hsz := hb.out.size
      have HX := qH hx
      generalize hxk : xs[k]?.getD 0 = x at *
      have HXK := qH hxk
      clear hcell hxk hx
      generalize hX : ((x : Nat) : Int) = X at *
      have i0' : 0 ≤ X := by omega
      have i1' : X < 4294967296 := by have := HX.out; omega
      have HXX := qH hX
      clear hX
      subst hD
      have hkk : n + 4 * k + 4 ≤ 1000000 := by omega
      go_wp2_with (at_builtin; refine wpList_append_own _ rfl _ _ 50 rfl base 5 i0 (.int .u8 0) 1 1 Tryz.underlying50 hi hz0 hz1 hz2 rfl (by decide) _ _ _ rfl (ho.out.alloc _) ⟨wr.heap.size, 0, none⟩ 4 4 [.int .u8 (X % 256), .int .u8 (X / 256 % 256), .int .u8 (X / 65536 % 256), .int .u8 (X / 16777216)] rfl rfl (fun j u hj => four_new hj) (by intro u hu; simp at hu; rcases hu with rfl | rfl | rfl | rfl <;> rfl) (by unfold maxLen; omega) (by omega) (by simp; omega) ?_)
      intro v' w1 hown1 hgrow _
      have HN := qH hown1
      have HB1 := qH ((hb.out.alloc (by omega) _).grown hgrow (by simp; omega) (fun k hk => (ho.out.lt k hk).1))
      clear hown1 hgrow
      go_wp2
      go_roundw
      case rel =>
        refine ⟨k + 1, by omega, by go_num, qH ?_, HB1⟩
        rw [lay4_take hlt, HXK.out, ← List.append_assoc, byteCells_add, d4_cells HXX.out HX.out]
        exact HN.out
      case measure => simp [intOf]; omega
    · have hkl : k = xs.length := by omega
      subst hkl
      have e : xs.take xs.length = xs := List.take_length
      have HH := qH (And.intro ho.out hb.out)
      rw [e] at HH
      clear ho hb e
      go_wp2
      go_ret
      exact ⟨_, rfl, HH.out.1, HH.out.2⟩
theorem own_later {w w' : World} {base size n : Nat} {e : TypeId} {v : Value} {xs : List Value} (h : w.ownsRow base e size v n xs) (hb : Below w.heap.size w w') : w'.ownsRow base e size v n xs := by
  refine ⟨h.1, ?_⟩
  rcases h.2 with h1 | ⟨g, cap, cur, hv, hg, hc, rest⟩
  · exact .inl h1
  · exact .inr ⟨g, cap, cur, hv, hg, (hb.block g (heap_lt hc)).trans hc, rest⟩
def Bt (l : List UInt8) (i : Nat) : Nat := (l[i]?.getD 0).toNat
theorem bt_lt (l : List UInt8) (i : Nat) : Bt l i < 256 := UInt8.toNat_lt _
theorem bt_get (s : ByteArray) (i : Nat) (h : i < s.size) : (s[i]'h).toNat = Bt s.data.toList i := by
  have h' : i < s.data.toList.length := by simpa using h
  unfold Bt
  rw [List.getElem?_eq_getElem h']
  rfl
theorem bt_drop (l : List UInt8) (n i : Nat) : Bt (l.drop n) i = Bt l (n + i) := by unfold Bt; rw [List.getElem?_drop]
def hd2 (l : List UInt8) : Nat := Bt l 0 * 256 + Bt l 1
def u4 (l : List UInt8) (k : Nat) : Nat := Bt l k + 256 * Bt l (k + 1) + 65536 * Bt l (k + 2) + 16777216 * Bt l (k + 3)
def rdn (l : List UInt8) : Nat → List Nat
  | 0 => []
  | n + 1 => rdn l n ++ [u4 l (2 + 4 * n)]
theorem rdn_len (l : List UInt8) : ∀ n, (rdn l n).length = n
  | 0 => rfl
  | n + 1 => by simp [rdn, rdn_len l n]
theorem u4_lt (l : List UInt8) (k : Nat) : u4 l k < 4294967296 := by
  have h0 := bt_lt l k
  have h1 := bt_lt l (k + 1)
  have h2 := bt_lt l (k + 2)
  have h3 := bt_lt l (k + 3)
  unfold u4; omega
theorem rdn_ok (l : List UInt8) : ∀ n, ok32 (rdn l n)
  | 0 => fun _ h => by simp [rdn] at h
  | n + 1 => fun x h => by
    rcases List.mem_append.1 h with h | h
    · exact rdn_ok l n x h
    · rw [List.mem_singleton.1 h]; exact u4_lt _ _
theorem i64_or_nat (a b : Nat) (ha : a < 4294967296) (hb : b < 4294967296) : bits .or .i64 (a : Int) (b : Int) = ((a ||| b : Nat) : Int) := by
  have hx : a ||| b < 2 ^ 32 := Nat.or_lt_two_pow (by omega) (by omega)
  show IntKind.i64.wrap ((BitVec.ofInt 64 (a : Int) ||| BitVec.ofInt 64 (b : Int)).toNat : Int) = _
  rw [BitVec.toNat_or, ofInt_u64 a (by omega), ofInt_u64 b (by omega)]
  exact IntWalk.i64_in _ ⟨by omega, by omega⟩
theorem ext_drop (s : ByteArray) (n : Nat) : s.extract n s.size = ⟨(s.data.toList.drop n).toArray⟩ := by
  apply ByteArray.ext
  apply Array.toList_inj.1
  rw [Lib.extract_data]
  simp
  rw [List.take_of_length_le]
  simp
theorem head_or {b0 b1 h : Nat} (l0 : b0 < 256) (l1 : b1 < 256) (hH : b0 * 256 + b1 = h) : bits BinOp.or IntKind.i64 ((b0 : Int) * 256) (b1 : Int) = (h : Int) := by
  have e : (b0 : Int) * 256 = ((b0 * 256 : Nat) : Int) := by omega
  have e2 : b0 * 256 ||| b1 = h := by rw [← hH]; exact nat_join 8 _ _ (by omega) (by omega)
  rw [e, i64_or_nat _ _ (by omega) (by omega), e2]
theorem head_facts {b0 b1 h n : Nat} {neg : Bool} (l0 : b0 < 256) (l1 : b1 < 256) (hH : b0 * 256 + b1 = h) (hn : h / 2 = n) (hneg : decide (h % 2 = 1) = neg) :
    bits BinOp.or IntKind.i64 ((b0 : Int) * 256) (b1 : Int) = (h : Int) ∧ wrap64 ((h : Int).tdiv 2) = (n : Int) ∧ wrap64 ((h : Int) / 2) = (n : Int) ∧ ((h : Int).tmod 2 == 1) = neg ∧ ((h : Int) % 2 == 1) = neg := by
  have h0 : (0 : Int) ≤ (h : Int) := by omega
  have q : wrap64 ((h : Int) / 2) = (n : Int) := by rw [IntWalk.wrap64_in _ ⟨by omega, by omega⟩]; omega
  have r : ((h : Int) % 2 == 1) = neg := by
    rw [← hneg]
    rcases Nat.mod_two_eq_zero_or_one h with e | e
    · have e1 : (h : Int) % 2 = 0 := by omega
      rw [e1, e]; rfl
    · have e1 : (h : Int) % 2 = 1 := by omega
      rw [e1, e]; rfl
  refine ⟨head_or l0 l1 hH, ?_, q, ?_, r⟩
  · rw [Int.tdiv_eq_ediv_of_nonneg h0]; exact q
  · rw [Int.tmod_eq_emod_of_nonneg h0]; exact r
theorem wrap4f {n : Nat} (h : n ≤ 32767) : wrap64 ((n : Int) * 4) = (n : Int) * 4 := IntWalk.wrap64_in _ ⟨by omega, by omega⟩
theorem right_rd {A : Option Addr} {c n : Nat} {neg q : Bool} {l : List UInt8} {W : World} (hd : Dg W A c (rdn l n)) (hq : rightB neg (rdn l n) = q) (h4 : n ≤ 400) :
    Calls Tryz.prog 90 #[.agg #[.bool neg, .slice A n c]] W fun e w' => e = .returned (.bool q) ∧ Below W.heap.size W w' := by
  have h := right_any A c neg (rdn l n) W hd q hq (by rw [rdn_len]; omega)
  rw [rdn_len] at h
  exact h
theorem u32_v {x : Int} (h0 : 0 ≤ x) (h1 : x < 4294967296) : Value.int .u32 (IntKind.u32.wrap x) = Value.int .u32 x := by rw [IntWalk.u32_in _ ⟨h0, by omega⟩]
theorem own_set {w : World} {base size n g : Nat} {e : TypeId} {v : Value} {xs : List Value} (h : w.ownsRow base e size v n xs) (hg : g < base) (i : Nat) (u : Value) : (w.setCell ⟨g, i, none⟩ u).ownsRow base e size v n xs := by
  refine ⟨h.1, ?_⟩
  rcases h.2 with h1 | ⟨b, cap, cur, hv, hb, hc, rest⟩
  · exact .inl h1
  · exact .inr ⟨b, cap, cur, hv, hb, (heap_setCell_other w ⟨g, i, none⟩ b u (by simp; omega)).trans hc, rest⟩
theorem wrap4 {n : Nat} (h : n ≤ 400) : wrap64 ((n : Int) * 4) = (n : Int) * 4 := IntWalk.wrap64_in _ ⟨by omega, by omega⟩
theorem box_neg (w : World) (k : Nat) (neg : Bool) : (((((w.alloc (.cells #[.bool false, .slice none 0 0] 24)).drewN k).setCell ⟨w.heap.size, 0, none⟩ (.bool neg)).setCell ⟨w.heap.size, 1, none⟩ (.slice none 0 0)).heap[w.heap.size]? = some (.cells #[.bool neg, .slice none 0 0] 24 (0, 0))) ∧
    Below w.heap.size w ((((w.alloc (.cells #[.bool false, .slice none 0 0] 24)).drewN k).setCell ⟨w.heap.size, 0, none⟩ (.bool neg)).setCell ⟨w.heap.size, 1, none⟩ (.slice none 0 0)) := by
  constructor
  · have h0 : ((w.alloc (.cells #[.bool false, .slice none 0 0] 24)).drewN k).heap[w.heap.size]? = some (.cells #[.bool false, .slice none 0 0] 24 (0, 0)) := heap_alloc_new w _
    exact heap_setCell_same _ _ 1 _ _ (.slice none 0 0) (heap_setCell_same _ _ 0 _ _ (.bool neg) h0)
  · exact ((below_drewN (below1 w _) k).setCell (by simp) _).setCell (by simp) _
theorem cells_snoc (xs : List Nat) (x : Nat) : cells (xs ++ [x]) = cells xs ++ [.int .u32 (x : Int)] := by simp [cells]
theorem or3 {a b c d : Nat} (ha : a < 256) (hb : b < 256) (hc : c < 256) (hd : d < 256) :
    bits BinOp.or IntKind.u32 (a : Int) ((b : Int) * 256) = ((a + 256 * b : Nat) : Int) ∧ bits BinOp.or IntKind.u32 ((a + 256 * b : Nat) : Int) ((c : Int) * 65536) = ((a + 256 * b + 65536 * c : Nat) : Int) ∧
    bits BinOp.or IntKind.u32 ((a + 256 * b + 65536 * c : Nat) : Int) ((d : Int) * 16777216) = ((a + 256 * b + 65536 * c + 16777216 * d : Nat) : Int) := by
  refine ⟨?_, ?_, ?_⟩
  · rw [show (b : Int) * 256 = ((256 * b : Nat) : Int) by omega, u32_or_nat _ _ (by omega) (by omega), Nat.or_comm, nat_join 8 _ _ (by omega) (by omega)]; congr 1; omega
  · rw [show (c : Int) * 65536 = ((65536 * c : Nat) : Int) by omega, u32_or_nat _ _ (by omega) (by omega), Nat.or_comm, nat_join 16 _ _ (by omega) (by omega)]; congr 1; omega
  · rw [show (d : Int) * 16777216 = ((16777216 * d : Nat) : Int) by omega, u32_or_nat _ _ (by omega) (by omega), Nat.or_comm, nat_join 24 _ _ (by omega) (by omega)]; congr 1; omega
theorem ztake_go (s : ByteArray) (w : World) (l : List UInt8) (hl : s.data.toList = l) (h2 : 2 ≤ l.length) (n : Nat) (hn : hd2 l / 2 = n) (h4 : n ≤ 400) (h5 : 4 * n + 2 ≤ l.length) (hmax : l.length ≤ 9223372036854775807) (neg : Bool) (hneg : decide (hd2 l % 2 = 1) = neg) (q : Bool) (hq : rightB neg (rdn l n) = q) :
    Calls Tryz.prog 96 #[.string s] w fun e w' => Below w.heap.size w w' ∧ (q = false → e = .returned (.tuple #[.agg #[.bool false, .slice none 0 0], .string ⟨#[]⟩, .int .i64 2])) ∧
      (q = true → ∃ A c, e = .returned (.tuple #[.agg #[.bool neg, .slice A n c], .string ⟨(l.drop (2 + 4 * n)).toArray⟩, .int .i64 0]) ∧ Dg w' A c (rdn l n)) := by
  have hs : s.size = l.length := by rw [← hl]; simp
  have d0 : decide ((s.size : Int) < 2) = false := by simp; omega
  have n0 : 0 < s.size := by omega
  have n1 : 1 < s.size := by omega
  have e0 : (0 : Int) < (s.size : Int) := by omega
  have e1 : (1 : Int) < (s.size : Int) := by omega
  have e2 : (2 : Int) ≤ (s.size : Int) := by omega
  obtain ⟨b0, hb0⟩ : ∃ b0 : Nat, (s[0]'n0).toNat = b0 := ⟨_, rfl⟩
  obtain ⟨b1, hb1⟩ : ∃ b1 : Nat, (s[1]'n1).toNat = b1 := ⟨_, rfl⟩
  have l0 : b0 < 256 := by rw [← hb0]; exact UInt8.toNat_lt _
  have l1 : b1 < 256 := by rw [← hb1]; exact UInt8.toNat_lt _
  have hH : b0 * 256 + b1 = hd2 l := by unfold hd2; rw [← hl, ← bt_get s 0 n0, ← bt_get s 1 n1, hb0, hb1]
  obtain ⟨h, hh⟩ : ∃ h : Nat, hd2 l = h := ⟨_, rfl⟩
  rw [hh] at hH hn hneg
  have HF := qH (head_facts l0 l1 hH hn hneg)
  have HW4 := qH (wrap4 h4)
  have hbd := ext_drop s 2
  rw [hl] at hbd
  obtain ⟨bd, hbe⟩ : ∃ bd : ByteArray, s.extract 2 s.size = bd := ⟨_, rfl⟩
  rw [hbe] at hbd
  have hbl : bd.data.toList = l.drop 2 := by rw [hbd]
  have hbs : bd.size = l.length - 2 := by
    have : bd.data.toList.length = l.length - 2 := by rw [hbl]; simp
    simpa using this
  have d4 : decide ((400 : Int) < (n : Int)) = false := decide_eq_false (by omega)
  have d5 : decide ((bd.size : Int) < (n : Int) * 4) = false := decide_eq_false (by omega)
  have HBL := qH hbl
  have HBS := qH hbs
  have HQ := qH hq
  have HL := qH (And.intro h2 (And.intro h4 (And.intro h5 hmax)))
  obtain ⟨i0, hi, hz0, hz1, hz2⟩ := info_parts elem_info
  have RA := qH (fun A c W (hd : Dg W A c (rdn l n)) => right_rd hd hq h4)
  clear hs hH hh hn hneg hbd hbl hbs hq h2 h4 h5 hmax hl
  go_enter Tryz.func96, Tryz.ntmps96
  have hO := HF.out.1
  go_wp2_with fail
  go_quiet (fail)
  clear hO
  have hQ := HF.out.2.1
  have hQ2 := HF.out.2.2.1
  have hR2 := HF.out.2.2.2.1
  have hR3 := HF.out.2.2.2.2
  go_wp2_with fail
  go_quiet (fail)
  rw [hQ2]
  try rw [hR3]
  clear hQ hQ2 hR2 hR3
  have hW4 := HW4.out
  go_upto_region 9 with fail
  clear hW4
  go_loopw [43] (fun i wr => ∃ (k : Nat) (v : Value), k ≤ n ∧ i = .int .i64 k ∧ Hid (wr.heap[w.heap.size]? = some (.cells #[.bool neg, v] 24 (0, 0))) ∧ Hid (wr.ownsRow (w.heap.size + 1) 67 1 v k (cells (rdn l k))) ∧ Hid (Below w.heap.size w wr)) (fun i _ => n - (intOf i).toNat)
  case atStart => exact ⟨0, .slice none 0 0, Nat.zero_le _, rfl, qH (box_neg w _ neg).1, qH (World.ownsRow_nil _ _ _ _), qH (box_neg w _ neg).2⟩
  case round =>
    obtain ⟨k, v, hk, rfl, HC, HO, HB⟩ := hrel
    by_cases hlt : k < n
    · have hL := HL.out
      have hbs := HBS.out
      have hk400 : k ≤ 400 := by omega
      have hin : (k : Int) * 4 ≤ (bd.size : Int) := by omega
      have hde := ext_drop bd (4 * k)
      rw [HBL.out, List.drop_drop] at hde
      have hde2 : bd.extract (k * 4) bd.size = ⟨(l.drop (2 + 4 * k)).toArray⟩ := by rw [Nat.mul_comm]; exact hde
      have HDE := qH hde2
      obtain ⟨d, hd⟩ : ∃ d : ByteArray, bd.extract (k * 4) bd.size = d := ⟨_, rfl⟩
      have hdl : d.data.toList = l.drop (2 + 4 * k) := by rw [← hd, HDE.out]
      have hds : d.size = l.length - (2 + 4 * k) := by
        have : d.data.toList.length = l.length - (2 + 4 * k) := by rw [hdl]; simp
        simpa using this
      have k0 : 0 < d.size := by omega
      have k1 : 1 < d.size := by omega
      have k2 : 2 < d.size := by omega
      have k3 : 3 < d.size := by omega
      obtain ⟨c0, hc0⟩ : ∃ c : Nat, (d[0]'k0).toNat = c := ⟨_, rfl⟩
      obtain ⟨c1, hc1⟩ : ∃ c : Nat, (d[1]'k1).toNat = c := ⟨_, rfl⟩
      obtain ⟨c2, hc2⟩ : ∃ c : Nat, (d[2]'k2).toNat = c := ⟨_, rfl⟩
      obtain ⟨c3, hc3⟩ : ∃ c : Nat, (d[3]'k3).toNat = c := ⟨_, rfl⟩
      have m0 : c0 < 256 := by rw [← hc0]; exact UInt8.toNat_lt _
      have m1 : c1 < 256 := by rw [← hc1]; exact UInt8.toNat_lt _
      have m2 : c2 < 256 := by rw [← hc2]; exact UInt8.toNat_lt _
      have m3 : c3 < 256 := by rw [← hc3]; exact UInt8.toNat_lt _
      have OO := qH (or3 m0 m1 m2 m3)
      have RD := qH (show cells (rdn l (k + 1)) = cells (rdn l k) ++ [.int .u32 ((c0 + 256 * c1 + 65536 * c2 + 16777216 * c3 : Nat) : Int)] by
        have e : u4 l (2 + 4 * k) = c0 + 256 * c1 + 65536 * c2 + 16777216 * c3 := by
          unfold u4; rw [← Nat.add_zero (2 + 4 * k), Nat.add_assoc (2 + 4 * k) 0 1, Nat.add_assoc (2 + 4 * k) 0 2, Nat.add_assoc (2 + 4 * k) 0 3, Nat.zero_add, Nat.zero_add, Nat.zero_add, ← bt_drop, ← bt_drop, ← bt_drop, ← bt_drop, ← hdl, ← bt_get d 0 k0, ← bt_get d 1 k1, ← bt_get d 2 k2, ← bt_get d 3 k3, hc0, hc1, hc2, hc3]
        show cells (rdn l k ++ [u4 l (2 + 4 * k)]) = _
        rw [cells_snoc, e])
      generalize c0 + 256 * c1 + 65536 * c2 + 16777216 * c3 = X at *
      generalize c0 + 256 * c1 + 65536 * c2 = o2 at *
      generalize c0 + 256 * c1 = o1 at *
      have q0 : (0 : Int) < (d.size : Int) := by omega
      have q1 : (1 : Int) < (d.size : Int) := by omega
      have q2 : (2 : Int) < (d.size : Int) := by omega
      have q3 : (3 : Int) < (d.size : Int) := by omega
      have HK := qH (And.intro hL (And.intro hbs hds))
      clear hL hbs hde hde2 hdl hds
      have hk4 := wrap4 hk400
      go_upto_region 12 with fail
      rw [hd]
      clear hk4 hd
      refine wp_operands (W := wr) rfl 21 [50, 51, 52, 53, 54, 55, 56, 57, 58, 59, 60, 61, 62, 63, 64, 65, 66, 67, 68, 69, 70] (fun i u x => match i with | 0 => u = .pointer (some ⟨w.heap.size, 1, none⟩) | 1 => u = v | 2 => u = .string d | 3 => u = .int .u8 (c0 : Int) | 4 => u = .int .u32 (c0 : Int) | 5 => u = .string d | 6 => u = .int .u8 (c1 : Int) | 7 => u = .int .u32 (c1 : Int) | 8 => u = .int .u32 ((c1 : Int) * 256) | 9 => u = .int .u32 (o1 : Int) | 10 => u = .string d | 11 => u = .int .u8 (c2 : Int) | 12 => u = .int .u32 (c2 : Int) | 13 => u = .int .u32 ((c2 : Int) * 65536) | 14 => u = .int .u32 (o2 : Int) | 15 => u = .string d | 16 => u = .int .u8 (c3 : Int) | 17 => u = .int .u32 (c3 : Int) | 18 => u = .int .u32 ((c3 : Int) * 16777216) | 19 => u = .int .u32 (X : Int) | 20 => ∃ g, u = .slice (some ⟨g, 0, none⟩) 1 1 ∧ x.heap[g]? = some (.cells #[.int .u32 (X : Int)] 67 (0, 0)) | _ => True) (fun _ => false)
        (by decide) rfl (by kernel_rfl) (by kernel_rfl) (by decide) (by kernel_rfl) ?_ (fun _ _ _ h => by cases h) ?_ ?_
      · intro i u x x' hi hR hb'
        have hi' : i = 0 ∨ i = 1 ∨ i = 2 ∨ i = 3 ∨ i = 4 ∨ i = 5 ∨ i = 6 ∨ i = 7 ∨ i = 8 ∨ i = 9 ∨ i = 10 ∨ i = 11 ∨ i = 12 ∨ i = 13 ∨ i = 14 ∨ i = 15 ∨ i = 16 ∨ i = 17 ∨ i = 18 ∨ i = 19 ∨ i = 20 := by omega
        rcases hi' with rfl | rfl | rfl | rfl | rfl | rfl | rfl | rfl | rfl | rfl | rfl | rfl | rfl | rfl | rfl | rfl | rfl | rfl | rfl | rfl | rfl
        · exact hR
        · exact hR
        · exact hR
        · exact hR
        · exact hR
        · exact hR
        · exact hR
        · exact hR
        · exact hR
        · exact hR
        · exact hR
        · exact hR
        · exact hR
        · exact hR
        · exact hR
        · exact hR
        · exact hR
        · exact hR
        · exact hR
        · exact hR
        · obtain ⟨g, e, hg⟩ := hR; exact ⟨g, e, (hb'.block g (heap_lt hg)).trans hg⟩
      · intro i a x K hi hF hb' hw hK
        have hi' : i = 0 ∨ i = 1 ∨ i = 2 ∨ i = 3 ∨ i = 4 ∨ i = 5 ∨ i = 6 ∨ i = 7 ∨ i = 8 ∨ i = 9 ∨ i = 10 ∨ i = 11 ∨ i = 12 ∨ i = 13 ∨ i = 14 ∨ i = 15 ∨ i = 16 ∨ i = 17 ∨ i = 18 ∨ i = 19 ∨ i = 20 := by omega
        rcases hi' with rfl | rfl | rfl | rfl | rfl | rfl | rfl | rfl | rfl | rfl | rfl | rfl | rfl | rfl | rfl | rfl | rfl | rfl | rfl | rfl | rfl
        · simp only [wpOp, gAy, gZy, Region.wanted, if_true]
          refine Or.inl ?_
          have e0 : a.eval (.tmp 2) = .pointer (some ⟨w.heap.size, 0, none⟩) := hF.2.2 2 (by decide)
          clear hw hF
          simp only [Oper.wp, execOp]
          rw [e0]
          go_simp
          exact hK _ x (by first | rfl | exact u32_v (by omega) (by omega) | (rw [O]; done) | (congr 1; omega)) (Below.refl _ _) (fun h => by cases h)
        · simp only [wpOp, gAy, gSy, gZy, Region.wanted, if_true]
          refine Or.inl ?_
          have e0 : a.tmps.getD 50 undef = .pointer (some ⟨w.heap.size, 1, none⟩) := hw 0 (by kernel_rfl)
          have f := row_cell HC.out hb' 1
          simp only [gAy, gSy, gZy] at f
          clear hw hF
          simp only [Oper.wp, execOp]
          go_simp
          exact hK _ x (by first | rfl | exact u32_v (by omega) (by omega) | (rw [O]; done) | (congr 1; omega)) (Below.refl _ _) (fun h => by cases h)
        · simp only [wpOp, gAy, gSy, gZy, Region.wanted, if_true]
          refine Or.inl ?_
          have e0 : a.eval (.tmp 10) = .string d := hF.2.2 10 (by decide)
          clear hw hF
          simp only [Oper.wp, execOp]
          rw [e0]
          go_simp
          exact hK _ x (by first | rfl | exact u32_v (by omega) (by omega) | (rw [O]; done) | (congr 1; omega)) (Below.refl _ _) (fun h => by cases h)
        · simp only [wpOp, gAy, gSy, gZy, Region.wanted, if_true]
          refine Or.inl ?_
          have e0 : a.tmps.getD 52 undef = .string d := hw 2 (by kernel_rfl)
          clear hw hF
          simp only [Oper.wp, execOp]
          go_simp
          exact hK _ x (by first | rfl | exact u32_v (by omega) (by omega) | (rw [O]; done) | (congr 1; omega)) (Below.refl _ _) (fun h => by cases h)
        · simp only [wpOp, gAy, gSy, gZy, Region.wanted, if_true]
          refine Or.inl ?_
          have e0 : a.tmps.getD 53 undef = .int .u8 (c0 : Int) := hw 3 (by kernel_rfl)
          clear hw hF
          simp only [Oper.wp, execOp]
          go_simp
          exact hK _ x (by first | rfl | exact u32_v (by omega) (by omega) | (rw [O]; done) | (congr 1; omega)) (Below.refl _ _) (fun h => by cases h)
        · simp only [wpOp, gAy, gSy, gZy, Region.wanted, if_true]
          refine Or.inl ?_
          have e0 : a.eval (.tmp 10) = .string d := hF.2.2 10 (by decide)
          clear hw hF
          simp only [Oper.wp, execOp]
          rw [e0]
          go_simp
          exact hK _ x (by first | rfl | exact u32_v (by omega) (by omega) | (rw [O]; done) | (congr 1; omega)) (Below.refl _ _) (fun h => by cases h)
        · simp only [wpOp, gAy, gSy, gZy, Region.wanted, if_true]
          refine Or.inl ?_
          have e0 : a.tmps.getD 55 undef = .string d := hw 5 (by kernel_rfl)
          clear hw hF
          simp only [Oper.wp, execOp]
          go_simp
          exact hK _ x (by first | rfl | exact u32_v (by omega) (by omega) | (rw [O]; done) | (congr 1; omega)) (Below.refl _ _) (fun h => by cases h)
        · simp only [wpOp, gAy, gSy, gZy, Region.wanted, if_true]
          refine Or.inl ?_
          have e0 : a.tmps.getD 56 undef = .int .u8 (c1 : Int) := hw 6 (by kernel_rfl)
          clear hw hF
          simp only [Oper.wp, execOp]
          go_simp
          exact hK _ x (by first | rfl | exact u32_v (by omega) (by omega) | (rw [O]; done) | (congr 1; omega)) (Below.refl _ _) (fun h => by cases h)
        · simp only [wpOp, gAy, gSy, gZy, Region.wanted, if_true]
          refine Or.inl ?_
          have e0 : a.tmps.getD 57 undef = .int .u32 (c1 : Int) := hw 7 (by kernel_rfl)
          clear hw hF
          simp only [Oper.wp, execOp]
          go_simp
          exact hK _ x (by first | rfl | exact u32_v (by omega) (by omega) | (rw [O]; done) | (congr 1; omega)) (Below.refl _ _) (fun h => by cases h)
        · simp only [wpOp, gAy, gSy, gZy, Region.wanted, if_true]
          refine Or.inl ?_
          have e0 : a.tmps.getD 54 undef = .int .u32 (c0 : Int) := hw 4 (by kernel_rfl)
          have e1 : a.tmps.getD 58 undef = .int .u32 ((c1 : Int) * 256) := hw 8 (by kernel_rfl)
          have O := OO.out.1
          clear hw hF
          simp only [Oper.wp, execOp]
          go_simp
          exact hK _ x (by first | rfl | exact u32_v (by omega) (by omega) | (rw [O]; done) | (congr 1; omega)) (Below.refl _ _) (fun h => by cases h)
        · simp only [wpOp, gAy, gSy, gZy, Region.wanted, if_true]
          refine Or.inl ?_
          have e0 : a.eval (.tmp 10) = .string d := hF.2.2 10 (by decide)
          clear hw hF
          simp only [Oper.wp, execOp]
          rw [e0]
          go_simp
          exact hK _ x (by first | rfl | exact u32_v (by omega) (by omega) | (rw [O]; done) | (congr 1; omega)) (Below.refl _ _) (fun h => by cases h)
        · simp only [wpOp, gAy, gSy, gZy, Region.wanted, if_true]
          refine Or.inl ?_
          have e0 : a.tmps.getD 60 undef = .string d := hw 10 (by kernel_rfl)
          clear hw hF
          simp only [Oper.wp, execOp]
          go_simp
          exact hK _ x (by first | rfl | exact u32_v (by omega) (by omega) | (rw [O]; done) | (congr 1; omega)) (Below.refl _ _) (fun h => by cases h)
        · simp only [wpOp, gAy, gSy, gZy, Region.wanted, if_true]
          refine Or.inl ?_
          have e0 : a.tmps.getD 61 undef = .int .u8 (c2 : Int) := hw 11 (by kernel_rfl)
          clear hw hF
          simp only [Oper.wp, execOp]
          go_simp
          exact hK _ x (by first | rfl | exact u32_v (by omega) (by omega) | (rw [O]; done) | (congr 1; omega)) (Below.refl _ _) (fun h => by cases h)
        · simp only [wpOp, gAy, gSy, gZy, Region.wanted, if_true]
          refine Or.inl ?_
          have e0 : a.tmps.getD 62 undef = .int .u32 (c2 : Int) := hw 12 (by kernel_rfl)
          clear hw hF
          simp only [Oper.wp, execOp]
          go_simp
          exact hK _ x (by first | rfl | exact u32_v (by omega) (by omega) | (rw [O]; done) | (congr 1; omega)) (Below.refl _ _) (fun h => by cases h)
        · simp only [wpOp, gAy, gSy, gZy, Region.wanted, if_true]
          refine Or.inl ?_
          have e0 : a.tmps.getD 59 undef = .int .u32 (o1 : Int) := hw 9 (by kernel_rfl)
          have e1 : a.tmps.getD 63 undef = .int .u32 ((c2 : Int) * 65536) := hw 13 (by kernel_rfl)
          have O := OO.out.2.1
          clear hw hF
          simp only [Oper.wp, execOp]
          go_simp
          exact hK _ x (by first | rfl | exact u32_v (by omega) (by omega) | (rw [O]; done) | (congr 1; omega)) (Below.refl _ _) (fun h => by cases h)
        · simp only [wpOp, gAy, gSy, gZy, Region.wanted, if_true]
          refine Or.inl ?_
          have e0 : a.eval (.tmp 10) = .string d := hF.2.2 10 (by decide)
          clear hw hF
          simp only [Oper.wp, execOp]
          rw [e0]
          go_simp
          exact hK _ x (by first | rfl | exact u32_v (by omega) (by omega) | (rw [O]; done) | (congr 1; omega)) (Below.refl _ _) (fun h => by cases h)
        · simp only [wpOp, gAy, gSy, gZy, Region.wanted, if_true]
          refine Or.inl ?_
          have e0 : a.tmps.getD 65 undef = .string d := hw 15 (by kernel_rfl)
          clear hw hF
          simp only [Oper.wp, execOp]
          go_simp
          exact hK _ x (by first | rfl | exact u32_v (by omega) (by omega) | (rw [O]; done) | (congr 1; omega)) (Below.refl _ _) (fun h => by cases h)
        · simp only [wpOp, gAy, gSy, gZy, Region.wanted, if_true]
          refine Or.inl ?_
          have e0 : a.tmps.getD 66 undef = .int .u8 (c3 : Int) := hw 16 (by kernel_rfl)
          clear hw hF
          simp only [Oper.wp, execOp]
          go_simp
          exact hK _ x (by first | rfl | exact u32_v (by omega) (by omega) | (rw [O]; done) | (congr 1; omega)) (Below.refl _ _) (fun h => by cases h)
        · simp only [wpOp, gAy, gSy, gZy, Region.wanted, if_true]
          refine Or.inl ?_
          have e0 : a.tmps.getD 67 undef = .int .u32 (c3 : Int) := hw 17 (by kernel_rfl)
          clear hw hF
          simp only [Oper.wp, execOp]
          go_simp
          exact hK _ x (by first | rfl | exact u32_v (by omega) (by omega) | (rw [O]; done) | (congr 1; omega)) (Below.refl _ _) (fun h => by cases h)
        · simp only [wpOp, gAy, gSy, gZy, Region.wanted, if_true]
          refine Or.inl ?_
          have e0 : a.tmps.getD 64 undef = .int .u32 (o2 : Int) := hw 14 (by kernel_rfl)
          have e1 : a.tmps.getD 68 undef = .int .u32 ((c3 : Int) * 16777216) := hw 18 (by kernel_rfl)
          have O := OO.out.2.2
          clear hw hF
          simp only [Oper.wp, execOp]
          go_simp
          exact hK _ x (by first | rfl | exact u32_v (by omega) (by omega) | (rw [O]; done) | (congr 1; omega)) (Below.refl _ _) (fun h => by cases h)
        · simp only [wpOp, gAy, gSy, gZy, Region.wanted, if_true]
          refine Or.inl ?_
          have e0 : a.tmps.getD 69 undef = .int .u32 (X : Int) := hw 19 (by kernel_rfl)
          clear hw hF
          simp only [Oper.wp, execOp]
          have e1 : a.tmps[69]?.getD undef = .int .u32 (X : Int) := by simpa using e0
          clear e0
          go_simp
          exact hK _ _ ⟨_, rfl, heap_alloc_new _ _⟩ (below1 _ _) (fun h => by cases h)
      · intro a x hF hb' hR _
        obtain ⟨gN, e20, hgN⟩ := hR 20 (by decide)
        have e0 : a.tmps.getD 50 undef = .pointer (some ⟨w.heap.size, 1, none⟩) := hR 0 (by decide)
        have e1 : a.tmps.getD 51 undef = v := hR 1 (by decide)
        have e2 : a.tmps.getD 52 undef = .string d := hR 2 (by decide)
        have e3 : a.tmps.getD 53 undef = .int .u8 (c0 : Int) := hR 3 (by decide)
        have e4 : a.tmps.getD 54 undef = .int .u32 (c0 : Int) := hR 4 (by decide)
        have e5 : a.tmps.getD 55 undef = .string d := hR 5 (by decide)
        have e6 : a.tmps.getD 56 undef = .int .u8 (c1 : Int) := hR 6 (by decide)
        have e7 : a.tmps.getD 57 undef = .int .u32 (c1 : Int) := hR 7 (by decide)
        have e8 : a.tmps.getD 58 undef = .int .u32 ((c1 : Int) * 256) := hR 8 (by decide)
        have e9 : a.tmps.getD 59 undef = .int .u32 (o1 : Int) := hR 9 (by decide)
        have e10 : a.tmps.getD 60 undef = .string d := hR 10 (by decide)
        have e11 : a.tmps.getD 61 undef = .int .u8 (c2 : Int) := hR 11 (by decide)
        have e12 : a.tmps.getD 62 undef = .int .u32 (c2 : Int) := hR 12 (by decide)
        have e13 : a.tmps.getD 63 undef = .int .u32 ((c2 : Int) * 65536) := hR 13 (by decide)
        have e14 : a.tmps.getD 64 undef = .int .u32 (o2 : Int) := hR 14 (by decide)
        have e15 : a.tmps.getD 65 undef = .string d := hR 15 (by decide)
        have e16 : a.tmps.getD 66 undef = .int .u8 (c3 : Int) := hR 16 (by decide)
        have e17 : a.tmps.getD 67 undef = .int .u32 (c3 : Int) := hR 17 (by decide)
        have e18 : a.tmps.getD 68 undef = .int .u32 ((c3 : Int) * 16777216) := hR 18 (by decide)
        have e19 : a.tmps.getD 69 undef = .int .u32 (X : Int) := hR 19 (by decide)
        rw [hF.fold (by kernel_rfl)]
        have e20b : a.tmps.getD 70 undef = .slice (some ⟨gN, 0, none⟩) 1 1 := e20
        simp only [List.foldl_cons, List.foldl_nil, e0, e1, e2, e3, e4, e5, e6, e7, e8, e9, e10, e11, e12, e13, e14, e15, e16, e17, e18, e19, e20b]
        simp only [Act.put, List.setIfInBounds_toArray, List.set_cons_zero, List.set_cons_succ]
        change wpOps _ _ _ [21, 22, 23] _ _
        simp only [wpOps_cons]
        clear e0 e1 e2 e3 e4 e5 e6 e7 e8 e9 e10 e11 e12 e13 e14 e15 e16 e17 e18 e19 e20 e20b hR hF
        have HCx := qH (cells_of HC.out hb')
        have HOx := qH (own_later HO.out hb')
        have HBx := qH (HB.out.trans (hb'.mono HB.out.size))
        have HGN := qH hgN
        have zx := hb'.size
        have zw := HB.out.size
        have zg := heap_lt HC.out
        clear hb' hgN
        simp only [wpOp, gAy, gSy, gZy, Region.wanted, if_true]
        refine Or.inl ?_
        refine wp_append_lies _ (.tmp 51) (.tmp 70) 22 rfl (w.heap.size + 1) 67 i0 (.int .u32 0) 1 4 Tryz.underlying22 hi hz0 hz1 hz2 rfl (by decide) v k (cells (rdn l k)) rfl HOx.out ⟨gN, 0, none⟩ 1 1 [.int .u32 (X : Int)] rfl rfl (World.news_of_block HGN.out) (by intro u hu; simp at hu; subst hu; rfl) (by omega) (by unfold maxLen; omega) (by omega) (by omega) _ rfl ?_
        intro g' cap w9 hown hgrow hat hlt9
        have HC9 := qH ((hgrow.block w.heap.size (by omega) (fun e => by have := (HOx.out.lt _ e.symm).1; omega)).trans HCx.out)
        have HB9 := qH (HBx.out.grown hgrow (by omega) (fun k hk => by have := (HOx.out.lt k hk).1; omega))
        have HO9 := qH (show w9.ownsRow (w.heap.size + 1) 67 1 (.slice (some ⟨g', 0, none⟩) (k + 1) cap) (k + 1) (cells (rdn l (k + 1))) by rw [RD.out]; exact hown)
        clear hown hgrow hat hlt9
        have f0 := cell_of_row w9 _ 0 _ _ _ HC9.out
        have f1 := cell_of_row w9 _ 1 _ _ _ HC9.out
        simp only [gAy, gSy, gZy] at f0 f1
        have q1 := frozen_of_row w9 _ 1 _ _ HC9.out
        have z9 := heap_lt HC9.out
        go_simp
        rw [wpOps_cons]
        simp only [wpOp, gAy, gSy, gZy, Region.wanted, if_true]
        refine Or.inl ?_
        simp only [Oper.wp, execOp]
        go_simp
        try rw [wpOps_cons]
        simp only [wpOp, gAy, gSy, gZy, Region.wanted, if_true]
        refine Or.inl ?_
        simp only [Oper.wp, execOp]
        go_simp
        try simp only [wpOps]
        have HK9 := qH (And.intro HC9.out (And.intro HO9.out HB9.out))
        clear f0 f1 q1 z9 HC9 HO9 HB9 HCx HOx HBx HGN zx zw zg
        go_wp2
        go_roundw
        case rel => exact ⟨k + 1, _, by omega, by go_num, qH (heap_setCell_same _ _ 1 _ _ _ HK9.out.1), qH (own_set HK9.out.2.1 (by omega) _ _), qH (HK9.out.2.2.setCell (by simp) _)⟩
        case measure => simp [intOf]; omega
    · obtain rfl : k = n := by omega
      obtain ⟨A, c, hv, hdg⟩ := dg_of_own HO.out (rdn_ok l k)
      rw [rdn_len] at hv
      subst hv
      have HDG := qH hdg
      clear hdg
      have f0 := cell_of_row wr _ 0 _ _ _ HC.out
      have f1 := cell_of_row wr _ 1 _ _ _ HC.out
      simp only [gAy, gSy, gZy] at f0 f1
      have zg := heap_lt HC.out
      go_wp2_with fail
      refine (RA.out A c _ HDG.out).mono ?_
      rintro e w5 ⟨rfl, hb⟩
      have HC5 := qH (cells_of HC.out hb)
      have HB5 := qH (HB.out.trans (hb.mono HB.out.size))
      have HD5 := qH (HDG.out.below hb)
      clear hb f0 f1 zg
      have f0 := cell_of_row w5 _ 0 _ _ _ HC5.out
      have f1 := cell_of_row w5 _ 1 _ _ _ HC5.out
      simp only [gAy, gSy, gZy] at f0 f1
      have q0 := frozen_of_row w5 _ 0 _ _ HC5.out
      have q1 := frozen_of_row w5 _ 1 _ _ HC5.out
      have zg := heap_lt HC5.out
      cases q
      · go_wp2
        obtain ⟨w6, hw6⟩ : ∃ w6 : World, w6 = (w5.setCell ⟨w.heap.size, 0, none⟩ (.bool false)).setCell ⟨w.heap.size, 1, none⟩ (.slice none 0 0) := ⟨_, rfl⟩
        rw [← hw6]
        have HC6 : w6.heap[w.heap.size]? = some (.cells #[.bool false, .slice none 0 0] 24 (0, 0)) := by
          rw [hw6]; exact heap_setCell_same _ _ 1 _ _ (.slice none 0 0) (heap_setCell_same _ _ 0 _ _ (.bool false) HC5.out)
        have HB6 : Below w.heap.size w w6 := by rw [hw6]; exact (HB5.out.setCell (by simp) _).setCell (by simp) _
        have r0 := cell_of_row w6 _ 0 _ _ _ HC6
        have r1 := cell_of_row w6 _ 1 _ _ _ HC6
        simp only [gAy, gSy, gZy] at r0 r1
        refine bodyPost_ret (v := .tuple #[.agg #[.bool false, .slice none 0 0], .string ⟨#[]⟩, .int .i64 2]) (by simp [results, Tryz.results96, go_sem, r0, r1]) rfl ?_
        exact ⟨HB6, rfl⟩
      · have hin : (k : Int) * 4 ≤ (bd.size : Int) := by have := HL.out; have := HBS.out; omega
        have hk4 := wrap4 (n := k) HL.out.2.1
        go_wp2_with fail
        go_region
        go_wp2
        obtain ⟨w6, hw6⟩ : ∃ w6 : World, w6 = ((w5.setCell ⟨w.heap.size, 0, none⟩ (.bool neg)).setCell ⟨w.heap.size, 1, none⟩ (.slice A k c)).drew := ⟨_, rfl⟩
        rw [← hw6]
        have HC6 : w6.heap[w.heap.size]? = some (.cells #[.bool neg, .slice A k c] 24 (0, 0)) := by
          rw [hw6]; exact heap_setCell_same _ _ 1 _ _ (.slice A k c) (heap_setCell_same _ _ 0 _ _ (.bool neg) HC5.out)
        have HB6 : Below w.heap.size w w6 := by rw [hw6]; exact below_drewN ((HB5.out.setCell (by simp) _).setCell (by simp) _) 1
        have KP : Kept w5 w6 := by
          rw [hw6]
          exact ((((Only.refl _ w5).setCell 0 _).kept HC5.out noint2').trans (((Only.refl _ _).setCell 1 _).kept (heap_setCell_same _ _ 0 _ _ (.bool neg) HC5.out) noint2')).trans (Kept.below (below_drewN (Below.refl _ _) 1))
        have r0 := cell_of_row w6 _ 0 _ _ _ HC6
        have r1 := cell_of_row w6 _ 1 _ _ _ HC6
        simp only [gAy, gSy, gZy] at r0 r1
        have hx : bd.extract (k * 4) bd.size = ⟨(l.drop (2 + 4 * k)).toArray⟩ := by
          rw [Nat.mul_comm, ext_drop bd (4 * k), HBL.out, List.drop_drop]
        rw [hx]
        refine bodyPost_ret (v := .tuple #[.agg #[.bool neg, .slice A k c], .string ⟨(l.drop (2 + 4 * k)).toArray⟩, .int .i64 0]) (by simp [results, Tryz.results96, go_sem, r0, r1]) rfl ?_
        exact ⟨HB6, A, c, rfl, HD5.out.kept KP⟩
def tkOk (l : List UInt8) : Prop := 2 ≤ l.length ∧ hd2 l / 2 ≤ 400 ∧ 4 * (hd2 l / 2) + 2 ≤ l.length ∧ rightB (decide (hd2 l % 2 = 1)) (rdn l (hd2 l / 2)) = true
theorem ztake_short (s : ByteArray) (w : World) (h2 : s.size < 2) :
    Calls Tryz.prog 96 #[.string s] w fun e w' => Below w.heap.size w w' ∧ e = .returned (.tuple #[.agg #[.bool false, .slice none 0 0], .string ⟨#[]⟩, .int .i64 2]) := by
  have d0 : decide ((s.size : Int) < 2) = true := decide_eq_true (by omega)
  clear h2
  go_enter Tryz.func96, Tryz.ntmps96
  go_wp2
  refine bodyPost_ret (v := .tuple #[.agg #[.bool false, .slice none 0 0], .string ⟨#[]⟩, .int .i64 2]) (by simp [results, Tryz.results96, go_sem]) rfl ?_
  exact ⟨below1 w _, rfl⟩
theorem ztake_far (s : ByteArray) (w : World) (l : List UInt8) (hl : s.data.toList = l) (h2 : 2 ≤ l.length) (n : Nat) (hn : hd2 l / 2 = n) (hno : 400 < n ∨ l.length < 4 * n + 2) (hmax : l.length ≤ 9223372036854775807) :
    Calls Tryz.prog 96 #[.string s] w fun e w' => Below w.heap.size w w' ∧ e = .returned (.tuple #[.agg #[.bool false, .slice none 0 0], .string ⟨#[]⟩, .int .i64 2]) := by
  have hs : s.size = l.length := by rw [← hl]; simp
  have d0 : decide ((s.size : Int) < 2) = false := by simp; omega
  have n0 : 0 < s.size := by omega
  have n1 : 1 < s.size := by omega
  have e0 : (0 : Int) < (s.size : Int) := by omega
  have e1 : (1 : Int) < (s.size : Int) := by omega
  have e2 : (2 : Int) ≤ (s.size : Int) := by omega
  obtain ⟨b0, hb0⟩ : ∃ b0 : Nat, (s[0]'n0).toNat = b0 := ⟨_, rfl⟩
  obtain ⟨b1, hb1⟩ : ∃ b1 : Nat, (s[1]'n1).toNat = b1 := ⟨_, rfl⟩
  have l0 : b0 < 256 := by rw [← hb0]; exact UInt8.toNat_lt _
  have l1 : b1 < 256 := by rw [← hb1]; exact UInt8.toNat_lt _
  have hH : b0 * 256 + b1 = hd2 l := by unfold hd2; rw [← hl, ← bt_get s 0 n0, ← bt_get s 1 n1, hb0, hb1]
  obtain ⟨h, hh⟩ : ∃ h : Nat, hd2 l = h := ⟨_, rfl⟩
  rw [hh] at hH hn
  have hnb : n ≤ 32767 := by omega
  have HF := qH (head_facts (neg := decide (h % 2 = 1)) l0 l1 hH hn rfl)
  have HW4 := qH (wrap4f hnb)
  have hbd := ext_drop s 2
  rw [hl] at hbd
  obtain ⟨bd, hbe⟩ : ∃ bd : ByteArray, s.extract 2 s.size = bd := ⟨_, rfl⟩
  rw [hbe] at hbd
  have hbl : bd.data.toList = l.drop 2 := by rw [hbd]
  have hbs : bd.size = l.length - 2 := by
    have : bd.data.toList.length = l.length - 2 := by rw [hbl]; simp
    simpa using this
  by_cases hf : 400 < n
  · have d4 : decide ((400 : Int) < (n : Int)) = true := decide_eq_true (by omega)
    clear hs hH hh hn hno hbd hbl hbs hmax hl hf hnb
    go_enter Tryz.func96, Tryz.ntmps96
    have hO := HF.out.1
    go_wp2_with fail
    go_quiet (fail)
    clear hO
    have hQ := HF.out.2.1
    have hQ2 := HF.out.2.2.1
    go_wp2_with fail
    go_quiet (fail)
    try rw [hQ2]
    clear hQ hQ2
    go_wp2
    refine bodyPost_ret (v := .tuple #[.agg #[.bool false, .slice none 0 0], .string ⟨#[]⟩, .int .i64 2]) (by simp [results, Tryz.results96, go_sem]) rfl ?_
    exact ⟨((below_drewN (below1 w _) _).setCell (by simp) _).setCell (by simp) _, rfl⟩
  · have d4 : decide ((400 : Int) < (n : Int)) = false := decide_eq_false (by omega)
    have d5 : decide ((bd.size : Int) < (n : Int) * 4) = true := decide_eq_true (by omega)
    clear hs hH hh hn hno hbd hbl hbs hmax hl hf hnb
    go_enter Tryz.func96, Tryz.ntmps96
    have hO := HF.out.1
    go_wp2_with fail
    go_quiet (fail)
    clear hO
    have hQ := HF.out.2.1
    have hQ2 := HF.out.2.2.1
    go_wp2_with fail
    go_quiet (fail)
    try rw [hQ2]
    clear hQ hQ2
    have hW4 := HW4.out
    go_wp2
    refine bodyPost_ret (v := .tuple #[.agg #[.bool false, .slice none 0 0], .string ⟨#[]⟩, .int .i64 2]) (by simp [results, Tryz.results96, go_sem]) rfl ?_
    exact ⟨((below_drewN (below1 w _) _).setCell (by simp) _).setCell (by simp) _, rfl⟩
theorem ztake_any (s : ByteArray) (w : World) (l : List UInt8) (hl : s.data.toList = l) (hmax : l.length ≤ 9223372036854775807) :
    Calls Tryz.prog 96 #[.string s] w fun e w' => Below w.heap.size w w' ∧ (¬ tkOk l → e = .returned (.tuple #[.agg #[.bool false, .slice none 0 0], .string ⟨#[]⟩, .int .i64 2])) ∧
      (tkOk l → ∃ A c, e = .returned (.tuple #[.agg #[.bool (decide (hd2 l % 2 = 1)), .slice A (hd2 l / 2) c], .string ⟨(l.drop (2 + 4 * (hd2 l / 2))).toArray⟩, .int .i64 0]) ∧ Dg w' A c (rdn l (hd2 l / 2))) := by
  have hs : s.size = l.length := by rw [← hl]; simp
  by_cases h2 : l.length < 2
  · exact (ztake_short s w (by omega)).mono fun e w' ⟨hb, he⟩ => ⟨hb, fun _ => he, fun h => by have := h.1; omega⟩
  · by_cases h3 : 400 < hd2 l / 2 ∨ l.length < 4 * (hd2 l / 2) + 2
    · exact (ztake_far s w l hl (by omega) _ rfl h3 hmax).mono fun e w' ⟨hb, he⟩ => ⟨hb, fun _ => he, fun h => by have := h.2.1; have := h.2.2.1; omega⟩
    · refine (ztake_go s w l hl (by omega) _ rfl (by omega) (by omega) hmax _ rfl _ rfl).mono ?_
      rintro e w' ⟨hb, h4, h5⟩
      refine ⟨hb, fun h => h4 ?_, fun h => h5 h.2.2.2⟩
      by_cases hr : rightB (decide (hd2 l % 2 = 1)) (rdn l (hd2 l / 2)) = true
      · exact absurd ⟨by omega, by omega, by omega, hr⟩ h
      · simpa using hr
def headN (s : Bool) (n : Nat) : Nat := 2 * n + (if s then 1 else 0)
def zbytes (s : Bool) (xs : List Nat) : List UInt8 := UInt8.ofNat (headN s xs.length / 256) :: UInt8.ofNat (headN s xs.length) :: lay4 xs
theorem zbytes_len (s : Bool) (xs : List Nat) : (zbytes s xs).length = 2 + 4 * xs.length := by simp [zbytes, lay4_len]; omega
theorem two_new {w : World} {a b : Value} {T : TypeId} {j : Nat} {u : Value} (hj : [a, b][j]? = some u) : (w.alloc (.cells #[a, b] T)).cell? ((⟨w.heap.size, 0, none⟩ : Addr).add j) = some u := by
  rw [Addr.add_lit, Nat.zero_add, cell_of_row _ _ _ _ _ _ (heap_alloc_new w _)]
  simpa using hj
theorem head_cells {H : Int} {h : Nat} (e : (h : Int) = H) (hh : H ≤ 801) : Lib.byteCells [UInt8.ofNat (h / 256), UInt8.ofNat h] = [.int .u8 (H / 256), .int .u8 (H % 256)] := by
  subst e
  unfold Lib.byteCells
  simp
  omega
theorem own_string {w : World} {base : Nat} {v : Value} {n : Nat} {l : List UInt8} (hown : w.ownsRow base 5 1 v n (Lib.byteCells l)) (hn : n = l.length) (h0 : 0 < n) :
    (convert 50 9 v).run Tryz.prog w = .ok (.string ⟨l.toArray⟩) w := by
  subst hn
  rcases hown.2 with ⟨rfl, h1⟩ | ⟨g, cap, cur, rfl, _, _, _, _, _, _⟩
  · omega
  · refine run_convert_bytes_back w 50 9 5 ⟨g, 0, none⟩ cap l Tryz.underlying50 Tryz.underlying5 Tryz.underlying9 (fun j hj => ?_)
    have := hown.cells (g := g) rfl j (.int .u8 (l[j].toNat : Int)) (by unfold Lib.byteCells; simp [hj])
    exact this
theorem zbytes_any (A : Option Addr) (c : Nat) (s : Bool) (xs : List Nat) (w : World) (h : Dg w A c xs) (hl : xs.length ≤ 400) (hr : rightB s xs = true) :
    Calls Tryz.prog 62 #[.agg #[.bool s, .slice A xs.length c]] w fun e w' => e = .returned (.tuple #[.string ⟨(zbytes s xs).toArray⟩, .int .i64 0]) ∧ Below w.heap.size w w' := by
  have RA := qH (fun W h => right_any A c s xs W h true hr (by omega))
  obtain ⟨i0, hi, hz0, hz1, hz2⟩ := info_parts elem8_info
  have d4 : decide ((400 : Int) < (xs.length : Int)) = false := by simp; omega
  clear hr
  have HD := qH h
  have hbase : 0 < xs.length → ∀ b o, A = some ⟨b, o, none⟩ → b < w.heap.size + 1 := fun h0 b o e => by
    obtain ⟨b1, o1, e1, hb1, _⟩ := h.2.2 h0
    rw [e] at e1; simp only [Option.some.injEq, Addr.mk.injEq] at e1; omega
  have HBASE := qH hbase
  clear hbase h
  obtain ⟨H, hH⟩ : ∃ H : Int, ((headN s xs.length : Nat) : Int) = H := ⟨_, rfl⟩
  have HH := qH hH
  have hH2 : H = 2 * (xs.length : Int) + (if s then 1 else 0) := by rw [← hH]; unfold headN; cases s <;> simp
  clear hH
  cases s
  · have hH3 : 2 * (xs.length : Int) = H := by simpa using hH2.symm
    have hHb : 0 ≤ H ∧ H ≤ 801 := by omega
    obtain ⟨hHb0, hHb1⟩ := hHb
    have HEQ := qH hH3
    clear hH2 hH3
    go_enter Tryz.func62, Tryz.ntmps62
    go_wp2_with fail
    refine (RA.out _ (HD.out.below (below1 _ _))).mono ?_
    rintro e w1 ⟨rfl, hb⟩
    have K1 := qH (show Below (w.heap.size + 1) (w.alloc (.cells #[.bool false, .slice A xs.length c] 24)) w1 by simpa using hb)
    obtain ⟨hc, hf⟩ := bcellB K1.out
    have hsz : w.heap.size + 1 ≤ w1.heap.size := by have := K1.out.size; simpa using this
    clear hb
    go_upto_region 6 with fail
    rw [HEQ.out]
    have hlen : xs.length ≤ 400 := hl
    go_wp2_with (refine wpList_make_own _ rfl (.const (.int .i64 0)) (.tmp 27) 50 rfl (w.heap.size + 1) 5 i0 (.int .u8 0) 1 Tryz.underlying50 hi hz0 hz1 .i64 .i64 _ (2 + 4 * xs.length) rfl rfl (by push_cast; omega) (by rw [hz2]; omega) (by unfold maxLen; omega) hsz ?_; intro w2 hown2 hgrow2; refine Hid.out ?_)
    refine qH ?_
    have HO2 := qH hown2
    have KG := qH (K1.out.grown hgrow2 hsz (fun k hk => by cases hk))
    obtain ⟨hc2, hf2⟩ := bcellB KG.out
    have hsz2 : w.heap.size + 1 ≤ w2.heap.size := by have := KG.out.size; simpa using this
    clear hown2 hgrow2 hc hf
    go_wp2_with (at_builtin; refine wpList_append_own _ rfl (.tmp 29) (.tmp 35) 50 rfl (w.heap.size + 1) 5 i0 (.int .u8 0) 1 1 Tryz.underlying50 hi hz0 hz1 hz2 rfl (by decide) _ _ _ rfl (HO2.out.alloc _) ⟨w2.heap.size, 0, none⟩ 2 2 [.int .u8 (H / 256), .int .u8 (H % 256)] rfl rfl (fun j u hj => two_new hj) (by intro u hu; simp at hu; rcases hu with rfl | rfl <;> rfl) (by unfold maxLen; omega) (by omega) (by simp; omega) ?_; intro v3 w3 hown3 hgrow3 _; refine Hid.out ?_)
    refine qH ?_
    have HO3 := qH (show w3.ownsRow (w.heap.size + 1) 5 1 v3 2 (Lib.byteCells [UInt8.ofNat (headN false xs.length / 256), UInt8.ofNat (headN false xs.length)]) by rw [head_cells HH.out hHb1]; simpa using hown3)
    have K3 := qH ((KG.out.alloc hsz2 _).grown hgrow3 (by simp; omega) (fun k hk => (HO2.out.lt k hk).1))
    obtain ⟨hc3, hf3⟩ := bcellB K3.out
    clear hown3 hgrow3 hc2 hf2
    go_wp2_with fail
    refine (lay_any (w.heap.size + 1) v3 2 _ A c xs _ HO3.out ((HD.out.below (below1 _ _)).below (show Below (w.alloc _).heap.size _ _ by simpa using K3.out)) HBASE.out (by have := K3.out.size; simpa using this) (by omega)).mono ?_
    rintro e w4 ⟨v4, rfl, hown4, hb4⟩
    have hcv := own_string hown4 (by simp [lay4_len]; omega) (by omega)
    have K4 := qH (K3.out.trans hb4)
    clear hown4 hb4 hc3 hf3
    go_wp2
    go_ret2
    exact ⟨rfl, (below1 w _).trans (K4.out.mono (by omega))⟩
  · have hH3 : 2 * (xs.length : Int) + 1 = H := by simpa using hH2.symm
    have hHb : 0 ≤ H ∧ H ≤ 801 := by omega
    obtain ⟨hHb0, hHb1⟩ := hHb
    have HEQ := qH hH3
    clear hH2 hH3
    go_enter Tryz.func62, Tryz.ntmps62
    go_wp2_with fail
    refine (RA.out _ (HD.out.below (below1 _ _))).mono ?_
    rintro e w1 ⟨rfl, hb⟩
    have K1 := qH (show Below (w.heap.size + 1) (w.alloc (.cells #[.bool true, .slice A xs.length c] 24)) w1 by simpa using hb)
    obtain ⟨hc, hf⟩ := bcellB K1.out
    have hsz : w.heap.size + 1 ≤ w1.heap.size := by have := K1.out.size; simpa using this
    clear hb
    go_upto_region 6 with fail
    rw [HEQ.out]
    have hlen : xs.length ≤ 400 := hl
    go_wp2_with (refine wpList_make_own _ rfl (.const (.int .i64 0)) (.tmp 27) 50 rfl (w.heap.size + 1) 5 i0 (.int .u8 0) 1 Tryz.underlying50 hi hz0 hz1 .i64 .i64 _ (2 + 4 * xs.length) rfl rfl (by push_cast; omega) (by rw [hz2]; omega) (by unfold maxLen; omega) hsz ?_; intro w2 hown2 hgrow2; refine Hid.out ?_)
    refine qH ?_
    have HO2 := qH hown2
    have KG := qH (K1.out.grown hgrow2 hsz (fun k hk => by cases hk))
    obtain ⟨hc2, hf2⟩ := bcellB KG.out
    have hsz2 : w.heap.size + 1 ≤ w2.heap.size := by have := KG.out.size; simpa using this
    clear hown2 hgrow2 hc hf
    go_wp2_with (at_builtin; refine wpList_append_own _ rfl (.tmp 29) (.tmp 35) 50 rfl (w.heap.size + 1) 5 i0 (.int .u8 0) 1 1 Tryz.underlying50 hi hz0 hz1 hz2 rfl (by decide) _ _ _ rfl (HO2.out.alloc _) ⟨w2.heap.size, 0, none⟩ 2 2 [.int .u8 (H / 256), .int .u8 (H % 256)] rfl rfl (fun j u hj => two_new hj) (by intro u hu; simp at hu; rcases hu with rfl | rfl <;> rfl) (by unfold maxLen; omega) (by omega) (by simp; omega) ?_; intro v3 w3 hown3 hgrow3 _; refine Hid.out ?_)
    refine qH ?_
    have HO3 := qH (show w3.ownsRow (w.heap.size + 1) 5 1 v3 2 (Lib.byteCells [UInt8.ofNat (headN true xs.length / 256), UInt8.ofNat (headN true xs.length)]) by rw [head_cells HH.out hHb1]; simpa using hown3)
    have K3 := qH ((KG.out.alloc hsz2 _).grown hgrow3 (by simp; omega) (fun k hk => (HO2.out.lt k hk).1))
    obtain ⟨hc3, hf3⟩ := bcellB K3.out
    clear hown3 hgrow3 hc2 hf2
    go_wp2_with fail
    refine (lay_any (w.heap.size + 1) v3 2 _ A c xs _ HO3.out ((HD.out.below (below1 _ _)).below (show Below (w.alloc _).heap.size _ _ by simpa using K3.out)) HBASE.out (by have := K3.out.size; simpa using this) (by omega)).mono ?_
    rintro e w4 ⟨v4, rfl, hown4, hb4⟩
    have hcv := own_string hown4 (by simp [lay4_len]; omega) (by omega)
    have K4 := qH (K3.out.trans hb4)
    clear hown4 hb4 hc3 hf3
    go_wp2
    go_ret2
    exact ⟨rfl, (below1 w _).trans (K4.out.mono (by omega))⟩
theorem byte_mod {a b : Nat} (h : a % 256 = b % 256) : UInt8.ofNat a = UInt8.ofNat b := by
  apply UInt8.toNat_inj.1
  simpa using h
theorem lay4_rdn (l : List UInt8) : ∀ n, 4 * n + 2 ≤ l.length → lay4 (rdn l n) = (l.drop 2).take (4 * n)
  | 0, _ => by simp [rdn, lay4]
  | n + 1, h => by
    have ih := lay4_rdn l n (by omega)
    have e : rdn l (n + 1) = rdn l n ++ [u4 l (2 + 4 * n)] := rfl
    have e2 : lay4 (rdn l (n + 1)) = lay4 (rdn l n) ++ d4 (u4 l (2 + 4 * n)) := by rw [e]; unfold lay4; simp
    have hb : ∀ j, j < 4 → (l.drop 2)[4 * n + j]? = some (UInt8.ofNat (Bt l (2 + 4 * n + j))) := by
      intro j hj
      rw [List.getElem?_drop]
      have hlt : 2 + (4 * n + j) < l.length := by omega
      have e3 : 2 + 4 * n + j = 2 + (4 * n + j) := by omega
      rw [List.getElem?_eq_getElem hlt, e3]
      unfold Bt
      rw [List.getElem?_eq_getElem hlt]
      simp
    have b0 := bt_lt l (2 + 4 * n)
    have b1 := bt_lt l (2 + 4 * n + 1)
    have b2 := bt_lt l (2 + 4 * n + 2)
    have b3 := bt_lt l (2 + 4 * n + 3)
    have ed : d4 (u4 l (2 + 4 * n)) = [UInt8.ofNat (Bt l (2 + 4 * n)), UInt8.ofNat (Bt l (2 + 4 * n + 1)), UInt8.ofNat (Bt l (2 + 4 * n + 2)), UInt8.ofNat (Bt l (2 + 4 * n + 3))] := by
      unfold d4 u4
      generalize Bt l (2 + 4 * n) = a0 at *
      generalize Bt l (2 + 4 * n + 1) = a1 at *
      generalize Bt l (2 + 4 * n + 2) = a2 at *
      generalize Bt l (2 + 4 * n + 3) = a3 at *
      rw [byte_mod (show (a0 + 256 * a1 + 65536 * a2 + 16777216 * a3) % 256 = a0 % 256 by omega), byte_mod (show (a0 + 256 * a1 + 65536 * a2 + 16777216 * a3) / 256 % 256 = a1 % 256 by omega), byte_mod (show (a0 + 256 * a1 + 65536 * a2 + 16777216 * a3) / 65536 % 256 = a2 % 256 by omega), byte_mod (show (a0 + 256 * a1 + 65536 * a2 + 16777216 * a3) / 16777216 % 256 = a3 % 256 by omega)]
    rw [e2, ih, ed]
    apply List.ext_getElem?
    intro j
    rcases Nat.lt_or_ge j (4 * n) with hj | hj
    · rw [List.getElem?_append_left (by simp; omega), List.getElem?_take, List.getElem?_take, if_pos hj, if_pos (by omega)]
    · rw [List.getElem?_append_right (by simp; omega), List.getElem?_take]
      have el : (List.take (4 * n) (List.drop 2 l)).length = 4 * n := by simp; omega
      rw [el]
      rcases Nat.lt_or_ge j (4 * n + 4) with hj4 | hj4
      · rw [if_pos (by omega)]
        obtain ⟨i, rfl, hi⟩ : ∃ i, j = 4 * n + i ∧ i < 4 := ⟨j - 4 * n, by omega, by omega⟩
        rw [hb i hi, Nat.add_sub_cancel_left]
        have h4 : i = 0 ∨ i = 1 ∨ i = 2 ∨ i = 3 := by omega
        rcases h4 with rfl | rfl | rfl | rfl <;> rfl
      · rw [if_neg (by omega), List.getElem?_eq_none (by simp; omega)]
theorem zb_take {l : List UInt8} {n : Nat} {neg : Bool} (hn : hd2 l / 2 = n) (hneg : decide (hd2 l % 2 = 1) = neg) (h : 4 * n + 2 ≤ l.length) : zbytes neg (rdn l n) = l.take (2 + 4 * n) := by
  have hl := lay4_rdn l n h
  have hh : headN neg (rdn l n).length = hd2 l := by
    rw [rdn_len, ← hn, ← hneg]
    unfold headN
    by_cases h1 : hd2 l % 2 = 1
    · rw [decide_eq_true h1]; simp; omega
    · rw [decide_eq_false h1]; simp; omega
  unfold zbytes
  rw [hh, hl]
  rcases l with _ | ⟨a, _ | ⟨b, r⟩⟩
  · simp at h
  · simp at h
  · have ha : Bt (a :: b :: r) 0 = a.toNat := rfl
    have hb : Bt (a :: b :: r) 1 = b.toNat := rfl
    have la := UInt8.toNat_lt a
    have lb := UInt8.toNat_lt b
    have e1 : UInt8.ofNat (hd2 (a :: b :: r) / 256) = a := by
      apply UInt8.toNat_inj.1
      unfold hd2
      rw [ha, hb]
      simp <;> omega
    have e2 : UInt8.ofNat (hd2 (a :: b :: r)) = b := by
      apply UInt8.toNat_inj.1
      unfold hd2
      rw [ha, hb]
      simp <;> omega
    rw [e1, e2, show 2 + 4 * n = 4 * n + 1 + 1 by omega]
    simp [List.take_succ_cons]
def zb (m : Int) : List UInt8 := zbytes (decide (m < 0)) (digs m.natAbs)
theorem zb_right (m : Int) : rightB (decide (m < 0)) (digs m.natAbs) = true := by
  by_cases h0 : m.natAbs = 0
  · obtain rfl : m = 0 := by omega
    show rightB _ (digs 0) = true
    rw [digs_zero]; rfl
  · have hl : (digs m.natAbs).length ≠ 0 := fun e => h0 (digs_nil.1 e)
    unfold rightB
    rw [if_neg hl, decide_eq_true_eq]
    have hne : (digs m.natAbs).getLast? = (digs m.natAbs)[(digs m.natAbs).length - 1]? := List.getLast?_eq_getElem?
    rcases hd : (digs m.natAbs)[(digs m.natAbs).length - 1]? with _ | d
    · rw [List.getElem?_eq_none_iff] at hd; omega
    · exact last_digs (by rw [hne, hd]; rfl)
theorem bt_right (p l : List UInt8) (j : Nat) : Bt (p ++ l) (p.length + j) = Bt l j := by
  unfold Bt
  rw [List.getElem?_append_right (by omega), Nat.add_sub_cancel_left]
theorem u4_mid (p q : List UInt8) {x k : Nat} (hx : x < 4294967296) (hk : p.length = k) : u4 (p ++ (d4 x ++ q)) k = x := by
  subst hk
  have h0 : Bt (p ++ (d4 x ++ q)) p.length = x % 256 := by
    have := bt_right p (d4 x ++ q) 0
    rw [Nat.add_zero] at this
    rw [this]; simp [Bt, d4]
  have h1 : Bt (p ++ (d4 x ++ q)) (p.length + 1) = x / 256 % 256 := by rw [bt_right]; simp [Bt, d4]
  have h2 : Bt (p ++ (d4 x ++ q)) (p.length + 2) = x / 65536 % 256 := by rw [bt_right]; simp [Bt, d4]
  have h3 : Bt (p ++ (d4 x ++ q)) (p.length + 3) = x / 16777216 % 256 := by rw [bt_right]; simp [Bt, d4]
  unfold u4
  rw [h0, h1, h2, h3]
  omega
theorem hd2_zb (s : Bool) (xs : List Nat) (r : List UInt8) (h : xs.length ≤ 16000) : hd2 (zbytes s xs ++ r) = headN s xs.length := by
  have hb : headN s xs.length < 65536 := by unfold headN; cases s <;> simp <;> omega
  unfold hd2 zbytes
  generalize headN s xs.length = H at *
  have e0 : Bt (UInt8.ofNat (H / 256) :: UInt8.ofNat H :: lay4 xs ++ r) 0 = H / 256 % 256 := by simp [Bt]
  have e1 : Bt (UInt8.ofNat (H / 256) :: UInt8.ofNat H :: lay4 xs ++ r) 1 = H % 256 := by simp [Bt]
  rw [e0, e1]
  omega
theorem lay4_split (xs : List Nat) (i : Nat) (h : i < xs.length) : lay4 xs = lay4 (xs.take i) ++ (d4 (xs[i]?.getD 0) ++ lay4 (xs.drop (i + 1))) := by
  have e : xs = xs.take i ++ (xs[i]'h :: xs.drop (i + 1)) := by rw [← List.drop_eq_getElem_cons h, List.take_append_drop]
  have e2 : xs[i]?.getD 0 = xs[i]'h := by rw [List.getElem?_eq_getElem h]; rfl
  rw [e2]
  conv => lhs; rw [e]
  unfold lay4
  rw [List.flatMap_append, List.flatMap_cons]
theorem rdn_zb (s : Bool) (xs : List Nat) (r : List UInt8) (hk : ok32 xs) : ∀ n, n ≤ xs.length → rdn (zbytes s xs ++ r) n = xs.take n
  | 0, _ => by simp [rdn]
  | n + 1, h => by
    show rdn (zbytes s xs ++ r) n ++ [u4 (zbytes s xs ++ r) (2 + 4 * n)] = _
    rw [rdn_zb s xs r hk n (by omega)]
    have hn : n < xs.length := by omega
    have hx : xs[n]?.getD 0 < 4294967296 := by rw [List.getElem?_eq_getElem hn]; exact hk _ (List.getElem_mem hn)
    have e : zbytes s xs ++ r = (UInt8.ofNat (headN s xs.length / 256) :: UInt8.ofNat (headN s xs.length) :: lay4 (xs.take n)) ++ (d4 (xs[n]?.getD 0) ++ (lay4 (xs.drop (n + 1)) ++ r)) := by
      unfold zbytes
      rw [lay4_split xs n hn]
      simp
    rw [e, u4_mid _ _ hx (by simp [lay4_len]; omega), List.getElem?_eq_getElem hn]
    simp only [Option.getD_some]
    rw [List.take_append_getElem]
theorem tk_zb (m : Int) (r : List UInt8) (h : (digs m.natAbs).length ≤ 400) : tkOk (zb m ++ r) ∧ hd2 (zb m ++ r) / 2 = (digs m.natAbs).length ∧ rdn (zb m ++ r) (hd2 (zb m ++ r) / 2) = digs m.natAbs ∧ decide (hd2 (zb m ++ r) % 2 = 1) = decide (m < 0) ∧ (zb m ++ r).drop (2 + 4 * (hd2 (zb m ++ r) / 2)) = r := by
  unfold zb
  have hh := hd2_zb (decide (m < 0)) (digs m.natAbs) r (by omega)
  have hl := zbytes_len (decide (m < 0)) (digs m.natAbs)
  have hn : hd2 (zbytes (decide (m < 0)) (digs m.natAbs) ++ r) / 2 = (digs m.natAbs).length := by rw [hh]; unfold headN; split <;> omega
  have hs : decide (hd2 (zbytes (decide (m < 0)) (digs m.natAbs) ++ r) % 2 = 1) = decide (m < 0) := by
    rw [hh]; unfold headN
    by_cases h1 : m < 0
    · rw [decide_eq_true h1, if_pos rfl, decide_eq_true_eq]; omega
    · rw [decide_eq_false h1, if_neg (by simp), decide_eq_false_iff_not]; omega
  have hr := rdn_zb (decide (m < 0)) (digs m.natAbs) r (ok_digs _) _ (Nat.le_refl _)
  rw [List.take_length] at hr
  refine ⟨⟨?_, ?_, ?_, ?_⟩, hn, ?_, hs, ?_⟩
  · rw [List.length_append]; omega
  · rw [hn]; exact h
  · rw [hn, List.length_append]; omega
  · rw [hn, hs, hr]; exact zb_right m
  · rw [hn]; exact hr
  · rw [hn, ← hl, List.drop_append_of_le_length (Nat.le_refl _), List.drop_length, List.nil_append]
theorem right_num {neg : Bool} {ds : List Nat} (hk : ok32 ds) (h : rightB neg ds = true) : ∃ m : Int, digs m.natAbs = ds ∧ decide (m < 0) = neg := by
  refine ⟨sg neg (val ds), ?_⟩
  have ha : (sg neg (val ds)).natAbs = val ds := by unfold sg; cases neg <;> simp
  rw [ha]
  have hd : digs (val ds) = ds := digs_val hk fun x hx => by
    have e : ds.getLast? = ds[ds.length - 1]? := List.getLast?_eq_getElem?
    rw [e] at hx
    have hl : ds.length ≠ 0 := fun h0 => by rw [List.getElem?_eq_none (by omega)] at hx; cases hx
    unfold rightB at h
    rw [if_neg hl, decide_eq_true_eq, hx] at h
    exact h
  refine ⟨hd, ?_⟩
  by_cases hl : ds.length = 0
  · unfold rightB at h
    rw [if_pos hl] at h
    have : neg = false := by simpa using h
    subst this
    unfold sg; simp
  · have h0 : val ds ≠ 0 := fun e => by rw [e, digs_zero] at hd; rw [← hd] at hl; exact hl rfl
    unfold sg
    cases neg
    · simp
    · simp; omega
theorem tk_inv {l : List UInt8} (h : tkOk l) : ∃ m r, (digs m.natAbs).length ≤ 400 ∧ l = zb m ++ r := by
  obtain ⟨h2, h4, h5, h6⟩ := h
  obtain ⟨m, e1, e2⟩ := right_num (rdn_ok l _) h6
  refine ⟨m, l.drop (2 + 4 * (hd2 l / 2)), by rw [e1, rdn_len]; exact h4, ?_⟩
  unfold zb
  rw [e1, e2, zb_take rfl rfl h5, List.take_append_drop]
def Zt (m : Int) (t : ByteArray) (k : Int) (w : World) (e : Ending) (w' : World) : Prop := ∃ A c, e = .returned (.tuple #[.agg #[.bool (decide (m < 0)), .slice A (digs m.natAbs).length c], .string t, .int .i64 k]) ∧ Dg w' A c (digs m.natAbs) ∧ Below w.heap.size w w'
theorem bytes_of {t : ByteArray} {l : List UInt8} (h : t.data.toList = l) : (⟨l.toArray⟩ : ByteArray) = t := by subst h; rfl
theorem ztk_yes {b t : ByteArray} {m : Int} (hb : b.data.toList = zb m ++ t.data.toList) (hl : (digs m.natAbs).length ≤ 400) (hm : b.data.toList.length ≤ 9223372036854775807) (w : World) :
    Calls Tryz.prog 96 #[.string b] w fun e w' => Zt m t 0 w e w' := by
  have hk := tk_zb m t.data.toList hl
  rw [← hb] at hk
  obtain ⟨k1, k2, k3, k4, k5⟩ := hk
  refine (ztake_any b w _ rfl hm).mono ?_
  rintro e w' ⟨hB, _, h5⟩
  obtain ⟨A, c, he, hd⟩ := h5 k1
  rw [k3] at hd
  rw [k4, k5, k2] at he
  exact ⟨A, c, he, hd, hB⟩
theorem ztk_no {b : ByteArray} (hm : b.data.toList.length ≤ 9223372036854775807) (h : ¬ ∃ m r, (digs m.natAbs).length ≤ 400 ∧ b.data.toList = zb m ++ r) (w : World) :
    Calls Tryz.prog 96 #[.string b] w fun e w' => Zt 0 ⟨#[]⟩ 2 w e w' := by
  refine (ztake_any b w _ rfl hm).mono ?_
  rintro e w' ⟨hB, h4, _⟩
  refine ⟨none, 0, ?_, ?_, hB⟩
  · rw [h4 (fun hk => h (tk_inv hk))]
    show _ = Ending.returned (.tuple #[.agg #[.bool false, .slice none (digs 0).length 0], .string ⟨#[]⟩, .int .i64 2])
    rw [digs_zero]; rfl
  · show Dg w' none 0 (digs 0)
    rw [digs_zero]; exact Dg.nil_ _ _
theorem zby_yes {A : Option Addr} {c : Nat} {m : Int} {t : ByteArray} (hl : (digs m.natAbs).length ≤ 400) (ht : t.data.toList = zb m) (w : World) (h : Dg w A c (digs m.natAbs)) :
    Calls Tryz.prog 62 #[.agg #[.bool (decide (m < 0)), .slice A (digs m.natAbs).length c]] w fun e w' => e = .returned (.tuple #[.string t, .int .i64 0]) ∧ Below w.heap.size w w' := by
  have := zbytes_any A c (decide (m < 0)) (digs m.natAbs) w h hl (zb_right m)
  have e : (⟨(zbytes (decide (m < 0)) (digs m.natAbs)).toArray⟩ : ByteArray) = t := bytes_of ht
  rw [e] at this; exact this
theorem zsm_yes {A : Option Addr} {c : Nat} {m q : Int} {ok : Bool} (hl : (digs m.natAbs).length ≤ 1000000) (hq : smallz m = q) (hok : smallb m = ok) (w : World) (h : Dg w A c (digs m.natAbs)) :
    Calls Tryz.prog 97 #[.agg #[.bool (decide (m < 0)), .slice A (digs m.natAbs).length c]] w fun e w' => e = .returned (.tuple #[.int .i64 q, .bool ok]) ∧ Below w.heap.size w w' :=
  zsmall_any A c (decide (m < 0)) (digs m.natAbs) w h hl q ok (by rw [sg_dz]; exact hq) (by rw [sg_dz]; exact hok)
def Ybs (p q e0 : Int) (w : World) (e : Ending) (w' : World) : Prop := ∃ A c B d, e = .returned (.tuple #[.agg #[.bool (decide (p < 0)), .slice A (digs p.natAbs).length c], .agg #[.bool (decide (q < 0)), .slice B (digs q.natAbs).length d], .int .i64 e0]) ∧ Dg w' A c (digs p.natAbs) ∧ Dg w' B d (digs q.natAbs) ∧ Below w.heap.size w w'
theorem upto_abs (m e g : Int) : (upto m e g).natAbs = m.natAbs * 2 ^ (e - g).toNat := by unfold upto; rw [Int.natAbs_mul, Int.natAbs_pow]; rfl
theorem upto_neg (m e g : Int) : decide (upto m e g < 0) = decide (m < 0) := by
  unfold upto
  have hp : (0 : Int) < 2 ^ (e - g).toNat := Int.pow_pos (by omega)
  rw [decide_eq_decide]
  constructor
  · intro h
    rcases Int.lt_or_le m 0 with h1 | h1
    · exact h1
    · have := Int.mul_nonneg h1 (Int.le_of_lt hp); omega
  · intro h
    have := Int.mul_le_mul_of_nonneg_right (a := m) (b := -1) (by omega) (Int.le_of_lt hp)
    omega
theorem upto_self (m e : Int) : upto m e e = m := by unfold upto; rw [Int.sub_self]; exact Int.mul_one m
theorem lift_z {A : Option Addr} {c : Nat} {m q x e0 : Int} {w : World} (h : Dg w A c (digs m.natAbs)) (hl : (digs m.natAbs).length ≤ 400000) (h0 : e0 ≤ x) (h1 : x - e0 ≤ 1000000) (hq : upto m x e0 = q) :
    Calls Tryz.prog 102 #[.slice A (digs m.natAbs).length c, .int .i64 (x - e0)] w fun e w' => ∃ A' c', e = .returned (.slice A' (digs q.natAbs).length c') ∧ Dg w' A' c' (digs q.natAbs) ∧ Below w.heap.size w w' := by
  have := lift_any A c (digs m.natAbs) (x - e0).toNat w h (by omega) (by omega)
  rw [val_digs, ← upto_abs, hq, show (((x - e0).toNat : Nat) : Int) = x - e0 by omega] at this
  exact this
theorem beside_lt (A B : Option Addr) (c d : Nat) (m n x y : Int) (w : World) (h : Dg w A c (digs m.natAbs)) (h' : Dg w B d (digs n.natAbs)) (hl : (digs m.natAbs).length ≤ 400000) (hl' : (digs n.natAbs).length ≤ 400000) (x0 : -131072 ≤ x) (x1 : x ≤ 131072) (y0 : -131072 ≤ y) (y1 : y ≤ 131072) {p q e0 : Int} (he : min x y = e0) (hp : upto m x e0 = p) (hq : upto n y e0 = q) (hc : x < y):
    Calls Tryz.prog 79 #[.agg #[.bool (decide (m < 0)), .slice A (digs m.natAbs).length c, .int .i64 x], .agg #[.bool (decide (n < 0)), .slice B (digs n.natAbs).length d, .int .i64 y]] w fun e w' => Ybs p q e0 w e w' := by
  have ex : e0 ≤ x := by omega
  have ey : e0 ≤ y := by omega
  have lx := qH hl
  have ly := qH hl'
  have HP := qH hp
  have HQ := qH hq
  have d1 : decide (e0 < x) = false := by simp; omega
  have d2 : decide (e0 < y) = true := by simp; omega
  have bx : x - e0 ≤ 1000000 := by omega
  have by_ : y - e0 ≤ 1000000 := by omega
  have bx0 : 0 ≤ x - e0 := by omega
  have by0 : 0 ≤ y - e0 := by omega
  have SQ := qH (show decide (n < 0) = decide (q < 0) by rw [← hq, upto_neg])
  obtain rfl : m = p := by rw [← hp, show x = e0 by omega, upto_self]
  have L0 := qH (((live_start w).add h).add h')
  clear hl hl' hp hq h h' hc
  go_enter Tryz.func79, Tryz.ntmps79
  go_wp2_with fail
  obtain ⟨v1, hW⟩ : ∃ W : World, W = ((((w.alloc (.cells #[.bool (decide (m < 0)), .slice A (digs m.natAbs).length c, .int .i64 x] 26)).alloc (.cells #[.bool (decide (n < 0)), .slice B (digs n.natAbs).length d, .int .i64 y] 26)).alloc (.cells #[.bool false, .slice none 0 0] 24)).alloc (.cells #[.bool false, .slice none 0 0] 24)) := ⟨_, rfl⟩
  rw [← hW]
  have hb : Below w.heap.size w v1 := by rw [hW]; exact (((((Below.refl _ _).alloc (by simp <;> omega) _).alloc (by simp <;> omega) _).alloc (by simp <;> omega) _).alloc (by simp <;> omega) _)
  have L1 := qH (L0.out.step hb)
  have Rx_1 := qH (show v1.heap[w.heap.size]? = some (.cells #[.bool (decide (m < 0)), .slice A (digs m.natAbs).length c, .int .i64 x] 26 (0, 0)) by rw [hW]; have := heap_alloc_new w (.cells #[.bool (decide (m < 0)), .slice A (digs m.natAbs).length c, .int .i64 x] 26); rw [heap_alloc_old _ _ (by simp <;> omega)]; rw [heap_alloc_old _ _ (by simp <;> omega)]; rw [heap_alloc_old _ _ (by simp <;> omega)]; simpa using this)
  have Gx : w.heap.size ≤ w.heap.size := by have := L0.out.1.size; omega
  have Ry_1 := qH (show v1.heap[w.heap.size + 1]? = some (.cells #[.bool (decide (n < 0)), .slice B (digs n.natAbs).length d, .int .i64 y] 26 (0, 0)) by rw [hW]; have := heap_alloc_new (w.alloc (.cells #[.bool (decide (m < 0)), .slice A (digs m.natAbs).length c, .int .i64 x] 26)) (.cells #[.bool (decide (n < 0)), .slice B (digs n.natAbs).length d, .int .i64 y] 26); rw [heap_alloc_old _ _ (by simp <;> omega)]; rw [heap_alloc_old _ _ (by simp <;> omega)]; simpa using this)
  have Gy : w.heap.size ≤ w.heap.size + 1 := by have := L0.out.1.size; omega
  have Nxy : w.heap.size < w.heap.size + 1 := by omega
  have Ra_1 := qH (show v1.heap[w.heap.size + 1 + 1]? = some (.cells #[.bool false, .slice none 0 0] 24 (0, 0)) by rw [hW]; have := heap_alloc_new ((w.alloc (.cells #[.bool (decide (m < 0)), .slice A (digs m.natAbs).length c, .int .i64 x] 26)).alloc (.cells #[.bool (decide (n < 0)), .slice B (digs n.natAbs).length d, .int .i64 y] 26)) (.cells #[.bool false, .slice none 0 0] 24); rw [heap_alloc_old _ _ (by simp <;> omega)]; simpa using this)
  have Ga : w.heap.size ≤ w.heap.size + 1 + 1 := by have := L0.out.1.size; omega
  have Nxa : w.heap.size < w.heap.size + 1 + 1 := by omega
  have Nya : w.heap.size + 1 < w.heap.size + 1 + 1 := by omega
  have Rb_1 := qH (show v1.heap[w.heap.size + 1 + 1 + 1]? = some (.cells #[.bool false, .slice none 0 0] 24 (0, 0)) by rw [hW]; have := heap_alloc_new (((w.alloc (.cells #[.bool (decide (m < 0)), .slice A (digs m.natAbs).length c, .int .i64 x] 26)).alloc (.cells #[.bool (decide (n < 0)), .slice B (digs n.natAbs).length d, .int .i64 y] 26)).alloc (.cells #[.bool false, .slice none 0 0] 24)) (.cells #[.bool false, .slice none 0 0] 24); simpa using this)
  have Gb : w.heap.size ≤ w.heap.size + 1 + 1 + 1 := by have := L0.out.1.size; omega
  have Nxb : w.heap.size < w.heap.size + 1 + 1 + 1 := by omega
  have Nyb : w.heap.size + 1 < w.heap.size + 1 + 1 + 1 := by omega
  have Nab : w.heap.size + 1 + 1 < w.heap.size + 1 + 1 + 1 := by omega
  clear hW hb
  have fx0 := row_c (i := 0) Rx_1.out rfl
  have zx0 := frozen_of_row _ _ 0 _ _ Rx_1.out
  have fx1 := row_c (i := 1) Rx_1.out rfl
  have zx1 := frozen_of_row _ _ 1 _ _ Rx_1.out
  have fx2 := row_c (i := 2) Rx_1.out rfl
  have zx2 := frozen_of_row _ _ 2 _ _ Rx_1.out
  have xx := heap_lt Rx_1.out
  have fy0 := row_c (i := 0) Ry_1.out rfl
  have zy0 := frozen_of_row _ _ 0 _ _ Ry_1.out
  have fy1 := row_c (i := 1) Ry_1.out rfl
  have zy1 := frozen_of_row _ _ 1 _ _ Ry_1.out
  have fy2 := row_c (i := 2) Ry_1.out rfl
  have zy2 := frozen_of_row _ _ 2 _ _ Ry_1.out
  have xy := heap_lt Ry_1.out
  have fa0 := row_c (i := 0) Ra_1.out rfl
  have za0 := frozen_of_row _ _ 0 _ _ Ra_1.out
  have fa1 := row_c (i := 1) Ra_1.out rfl
  have za1 := frozen_of_row _ _ 1 _ _ Ra_1.out
  have xa := heap_lt Ra_1.out
  have fb0 := row_c (i := 0) Rb_1.out rfl
  have zb0 := frozen_of_row _ _ 0 _ _ Rb_1.out
  have fb1 := row_c (i := 1) Rb_1.out rfl
  have zb1 := frozen_of_row _ _ 1 _ _ Rb_1.out
  have xb := heap_lt Rb_1.out
  go_region
  clear fx0 zx0 fx1 zx1 fx2 zx2 xx fy0 zy0 fy1 zy1 fy2 zy2 xy fa0 za0 fa1 za1 xa fb0 zb0 fb1 zb1 xb
  obtain ⟨w2, hW⟩ : ∃ W : World, W = ((v1.setCell ⟨w.heap.size + 1 + 1, 0, none⟩ (.bool (decide (m < 0)))).setCell ⟨w.heap.size + 1 + 1, 1, none⟩ (.slice A (digs m.natAbs).length c)) := ⟨_, rfl⟩
  rw [← hW]
  have hO : Only (w.heap.size + 1 + 1) v1 w2 := by rw [hW]; exact (((Only.refl (w.heap.size + 1 + 1) v1).setCell 0 _).setCell 1 _)
  have L2 := qH (live_only L1.out hO Ra_1.out noint_int Ga)
  have Rx_2 := qH ((hO.block _ (by omega)).trans Rx_1.out)
  have Ry_2 := qH ((hO.block _ (by omega)).trans Ry_1.out)
  have Rb_2 := qH ((hO.block _ (by omega)).trans Rb_1.out)
  have Ra_2 := qH (show w2.heap[w.heap.size + 1 + 1]? = some (.cells #[.bool (decide (m < 0)), .slice A (digs m.natAbs).length c] 24 (0, 0)) by rw [hW]; exact (heap_setCell_same _ _ 1 _ _ _ (heap_setCell_same _ _ 0 _ _ _ Ra_1.out)))
  clear hW hO
  obtain ⟨w3, hW⟩ : ∃ W : World, W = ((w2.setCell ⟨w.heap.size + 1 + 1 + 1, 0, none⟩ (.bool (decide (n < 0)))).setCell ⟨w.heap.size + 1 + 1 + 1, 1, none⟩ (.slice B (digs n.natAbs).length d)) := ⟨_, rfl⟩
  rw [← hW]
  have hO : Only (w.heap.size + 1 + 1 + 1) w2 w3 := by rw [hW]; exact (((Only.refl (w.heap.size + 1 + 1 + 1) w2).setCell 0 _).setCell 1 _)
  have L3 := qH (live_only L2.out hO Rb_2.out noint_int Gb)
  have Rx_3 := qH ((hO.block _ (by omega)).trans Rx_2.out)
  have Ry_3 := qH ((hO.block _ (by omega)).trans Ry_2.out)
  have Ra_3 := qH ((hO.block _ (by omega)).trans Ra_2.out)
  have Rb_3 := qH (show w3.heap[w.heap.size + 1 + 1 + 1]? = some (.cells #[.bool (decide (n < 0)), .slice B (digs n.natAbs).length d] 24 (0, 0)) by rw [hW]; exact (heap_setCell_same _ _ 1 _ _ _ (heap_setCell_same _ _ 0 _ _ _ Rb_2.out)))
  clear hW hO
  obtain ⟨w4, hW⟩ : ∃ W : World, W = w3.drew := ⟨_, rfl⟩
  rw [← hW]
  have hb : Below w3.heap.size w3 w4 := by rw [hW]; exact bd0 _
  have L4 := qH (L3.out.step hb)
  have Rx_4 := qH (cells_of Rx_3.out hb)
  have Ry_4 := qH (cells_of Ry_3.out hb)
  have Ra_4 := qH (cells_of Ra_3.out hb)
  have Rb_4 := qH (cells_of Rb_3.out hb)
  clear hW hb
  have fx0 := row_c (i := 0) Rx_4.out rfl
  have zx0 := frozen_of_row _ _ 0 _ _ Rx_4.out
  have fx1 := row_c (i := 1) Rx_4.out rfl
  have zx1 := frozen_of_row _ _ 1 _ _ Rx_4.out
  have fx2 := row_c (i := 2) Rx_4.out rfl
  have zx2 := frozen_of_row _ _ 2 _ _ Rx_4.out
  have xx := heap_lt Rx_4.out
  have fy0 := row_c (i := 0) Ry_4.out rfl
  have zy0 := frozen_of_row _ _ 0 _ _ Ry_4.out
  have fy1 := row_c (i := 1) Ry_4.out rfl
  have zy1 := frozen_of_row _ _ 1 _ _ Ry_4.out
  have fy2 := row_c (i := 2) Ry_4.out rfl
  have zy2 := frozen_of_row _ _ 2 _ _ Ry_4.out
  have xy := heap_lt Ry_4.out
  have fa0 := row_c (i := 0) Ra_4.out rfl
  have za0 := frozen_of_row _ _ 0 _ _ Ra_4.out
  have fa1 := row_c (i := 1) Ra_4.out rfl
  have za1 := frozen_of_row _ _ 1 _ _ Ra_4.out
  have xa := heap_lt Ra_4.out
  have fb0 := row_c (i := 0) Rb_4.out rfl
  have zb0 := frozen_of_row _ _ 0 _ _ Rb_4.out
  have fb1 := row_c (i := 1) Rb_4.out rfl
  have zb1 := frozen_of_row _ _ 1 _ _ Rb_4.out
  have xb := heap_lt Rb_4.out
  go_wp2_with fail
  refine (lift_z (x := y) (e0 := e0) (L4.out.get (A := B) (c := d) (xs := digs n.natAbs) (by simp)) ly.out ey by_ HQ.out).mono ?_
  rintro e w5 ⟨A5, c5, rfl, hd, hb⟩
  have L5 := qH ((L4.out.step hb).add hd)
  clear fx0 zx0 fx1 zx1 fx2 zx2 xx fy0 zy0 fy1 zy1 fy2 zy2 xy fa0 za0 fa1 za1 xa fb0 zb0 fb1 zb1 xb
  have Rx_5 := qH (cells_of Rx_4.out hb)
  have Ry_5 := qH (cells_of Ry_4.out hb)
  have Ra_5 := qH (cells_of Ra_4.out hb)
  have Rb_5 := qH (cells_of Rb_4.out hb)
  clear hb hd
  have fx0 := row_c (i := 0) Rx_5.out rfl
  have zx0 := frozen_of_row _ _ 0 _ _ Rx_5.out
  have fx1 := row_c (i := 1) Rx_5.out rfl
  have zx1 := frozen_of_row _ _ 1 _ _ Rx_5.out
  have fx2 := row_c (i := 2) Rx_5.out rfl
  have zx2 := frozen_of_row _ _ 2 _ _ Rx_5.out
  have xx := heap_lt Rx_5.out
  have fy0 := row_c (i := 0) Ry_5.out rfl
  have zy0 := frozen_of_row _ _ 0 _ _ Ry_5.out
  have fy1 := row_c (i := 1) Ry_5.out rfl
  have zy1 := frozen_of_row _ _ 1 _ _ Ry_5.out
  have fy2 := row_c (i := 2) Ry_5.out rfl
  have zy2 := frozen_of_row _ _ 2 _ _ Ry_5.out
  have xy := heap_lt Ry_5.out
  have fa0 := row_c (i := 0) Ra_5.out rfl
  have za0 := frozen_of_row _ _ 0 _ _ Ra_5.out
  have fa1 := row_c (i := 1) Ra_5.out rfl
  have za1 := frozen_of_row _ _ 1 _ _ Ra_5.out
  have xa := heap_lt Ra_5.out
  have fb0 := row_c (i := 0) Rb_5.out rfl
  have zb0 := frozen_of_row _ _ 0 _ _ Rb_5.out
  have fb1 := row_c (i := 1) Rb_5.out rfl
  have zb1 := frozen_of_row _ _ 1 _ _ Rb_5.out
  have xb := heap_lt Rb_5.out
  go_wp2_with fail
  obtain ⟨w6, hW⟩ : ∃ W : World, W = (w5.setCell ⟨w.heap.size + 1 + 1 + 1, 1, none⟩ (.slice A5 (digs q.natAbs).length c5)) := ⟨_, rfl⟩
  rw [← hW]
  have hO : Only (w.heap.size + 1 + 1 + 1) w5 w6 := by rw [hW]; exact ((Only.refl (w.heap.size + 1 + 1 + 1) w5).setCell 1 _)
  have L6 := qH (live_only L5.out hO Rb_5.out noint_int Gb)
  have Rx_6 := qH ((hO.block _ (by omega)).trans Rx_5.out)
  have Ry_6 := qH ((hO.block _ (by omega)).trans Ry_5.out)
  have Ra_6 := qH ((hO.block _ (by omega)).trans Ra_5.out)
  have Rb_6 := qH (show w6.heap[w.heap.size + 1 + 1 + 1]? = some (.cells #[.bool (decide (n < 0)), .slice A5 (digs q.natAbs).length c5] 24 (0, 0)) by rw [hW]; exact (heap_setCell_same _ _ 1 _ _ _ Rb_5.out))
  clear hW hO
  clear fx0 zx0 fx1 zx1 fx2 zx2 xx fy0 zy0 fy1 zy1 fy2 zy2 xy fa0 za0 fa1 za1 xa fb0 zb0 fb1 zb1 xb
  have fa0 := row_c (i := 0) Ra_6.out rfl
  have za0 := frozen_of_row _ _ 0 _ _ Ra_6.out
  have fa1 := row_c (i := 1) Ra_6.out rfl
  have za1 := frozen_of_row _ _ 1 _ _ Ra_6.out
  have xa := heap_lt Ra_6.out
  have fb0 := row_c (i := 0) Rb_6.out rfl
  have zb0 := frozen_of_row _ _ 0 _ _ Rb_6.out
  have fb1 := row_c (i := 1) Rb_6.out rfl
  have zb1 := frozen_of_row _ _ 1 _ _ Rb_6.out
  have xb := heap_lt Rb_6.out
  go_region
  clear fa0 za0 fa1 za1 xa fb0 zb0 fb1 zb1 xb
  obtain ⟨w7, hW⟩ : ∃ W : World, W = ((w6.setCell ⟨w.heap.size + 1 + 1, 0, none⟩ (.bool (decide (m < 0)))).setCell ⟨w.heap.size + 1 + 1, 1, none⟩ (.slice A (digs m.natAbs).length c)) := ⟨_, rfl⟩
  rw [← hW]
  have hO : Only (w.heap.size + 1 + 1) w6 w7 := by rw [hW]; exact (((Only.refl (w.heap.size + 1 + 1) w6).setCell 0 _).setCell 1 _)
  have L7 := qH (live_only L6.out hO Ra_6.out noint_int Ga)
  have Rx_7 := qH ((hO.block _ (by omega)).trans Rx_6.out)
  have Ry_7 := qH ((hO.block _ (by omega)).trans Ry_6.out)
  have Rb_7 := qH ((hO.block _ (by omega)).trans Rb_6.out)
  have Ra_7 := qH (show w7.heap[w.heap.size + 1 + 1]? = some (.cells #[.bool (decide (m < 0)), .slice A (digs m.natAbs).length c] 24 (0, 0)) by rw [hW]; exact (heap_setCell_same _ _ 1 _ _ _ (heap_setCell_same _ _ 0 _ _ _ Ra_6.out)))
  clear hW hO
  obtain ⟨w8, hW⟩ : ∃ W : World, W = ((w7.setCell ⟨w.heap.size + 1 + 1 + 1, 0, none⟩ (.bool (decide (n < 0)))).setCell ⟨w.heap.size + 1 + 1 + 1, 1, none⟩ (.slice A5 (digs q.natAbs).length c5)) := ⟨_, rfl⟩
  rw [← hW]
  have hO : Only (w.heap.size + 1 + 1 + 1) w7 w8 := by rw [hW]; exact (((Only.refl (w.heap.size + 1 + 1 + 1) w7).setCell 0 _).setCell 1 _)
  have L8 := qH (live_only L7.out hO Rb_7.out noint_int Gb)
  have Rx_8 := qH ((hO.block _ (by omega)).trans Rx_7.out)
  have Ry_8 := qH ((hO.block _ (by omega)).trans Ry_7.out)
  have Ra_8 := qH ((hO.block _ (by omega)).trans Ra_7.out)
  have Rb_8 := qH (show w8.heap[w.heap.size + 1 + 1 + 1]? = some (.cells #[.bool (decide (n < 0)), .slice A5 (digs q.natAbs).length c5] 24 (0, 0)) by rw [hW]; exact (heap_setCell_same _ _ 1 _ _ _ (heap_setCell_same _ _ 0 _ _ _ Rb_7.out)))
  clear hW hO
  obtain ⟨w9, hW⟩ : ∃ W : World, W = w8.drew := ⟨_, rfl⟩
  rw [← hW]
  have hb : Below w8.heap.size w8 w9 := by rw [hW]; exact bd0 _
  have L9 := qH (L8.out.step hb)
  have Rx_9 := qH (cells_of Rx_8.out hb)
  have Ry_9 := qH (cells_of Ry_8.out hb)
  have Ra_9 := qH (cells_of Ra_8.out hb)
  have Rb_9 := qH (cells_of Rb_8.out hb)
  clear hW hb
  have fa0 := row_c (i := 0) Ra_9.out rfl
  have za0 := frozen_of_row _ _ 0 _ _ Ra_9.out
  have fa1 := row_c (i := 1) Ra_9.out rfl
  have za1 := frozen_of_row _ _ 1 _ _ Ra_9.out
  have xa := heap_lt Ra_9.out
  have fb0 := row_c (i := 0) Rb_9.out rfl
  have zb0 := frozen_of_row _ _ 0 _ _ Rb_9.out
  have fb1 := row_c (i := 1) Rb_9.out rfl
  have zb1 := frozen_of_row _ _ 1 _ _ Rb_9.out
  have xb := heap_lt Rb_9.out
  go_wp2
  refine bodyPost_ret (v := .tuple #[.agg #[.bool (decide (m < 0)), .slice A (digs m.natAbs).length c], .agg #[.bool (decide (n < 0)), .slice A5 (digs q.natAbs).length c5], .int .i64 e0]) (by simp [results, Tryz.results79, go_sem, fa0, fa1, fb0, fb1]) rfl ?_
  refine ⟨A, c, A5, c5, ?_, L9.out.get (A := A) (c := c) (xs := digs m.natAbs) (by simp), L9.out.get (A := A5) (c := c5) (xs := digs q.natAbs) (by simp), L9.out.1⟩
  rw [SQ.out]
theorem beside_gt (A B : Option Addr) (c d : Nat) (m n x y : Int) (w : World) (h : Dg w A c (digs m.natAbs)) (h' : Dg w B d (digs n.natAbs)) (hl : (digs m.natAbs).length ≤ 400000) (hl' : (digs n.natAbs).length ≤ 400000) (x0 : -131072 ≤ x) (x1 : x ≤ 131072) (y0 : -131072 ≤ y) (y1 : y ≤ 131072) {p q e0 : Int} (he : min x y = e0) (hp : upto m x e0 = p) (hq : upto n y e0 = q) (hc : y < x):
    Calls Tryz.prog 79 #[.agg #[.bool (decide (m < 0)), .slice A (digs m.natAbs).length c, .int .i64 x], .agg #[.bool (decide (n < 0)), .slice B (digs n.natAbs).length d, .int .i64 y]] w fun e w' => Ybs p q e0 w e w' := by
  have ex : e0 ≤ x := by omega
  have ey : e0 ≤ y := by omega
  have lx := qH hl
  have ly := qH hl'
  have HP := qH hp
  have HQ := qH hq
  have d1 : decide (e0 < x) = true := by simp; omega
  have d2 : decide (e0 < y) = false := by simp; omega
  have bx : x - e0 ≤ 1000000 := by omega
  have by_ : y - e0 ≤ 1000000 := by omega
  have bx0 : 0 ≤ x - e0 := by omega
  have by0 : 0 ≤ y - e0 := by omega
  have SP := qH (show decide (m < 0) = decide (p < 0) by rw [← hp, upto_neg])
  obtain rfl : n = q := by rw [← hq, show y = e0 by omega, upto_self]
  have L0 := qH (((live_start w).add h).add h')
  clear hl hl' hp hq h h' hc
  go_enter Tryz.func79, Tryz.ntmps79
  go_wp2_with fail
  obtain ⟨v1, hW⟩ : ∃ W : World, W = ((((w.alloc (.cells #[.bool (decide (m < 0)), .slice A (digs m.natAbs).length c, .int .i64 x] 26)).alloc (.cells #[.bool (decide (n < 0)), .slice B (digs n.natAbs).length d, .int .i64 y] 26)).alloc (.cells #[.bool false, .slice none 0 0] 24)).alloc (.cells #[.bool false, .slice none 0 0] 24)) := ⟨_, rfl⟩
  rw [← hW]
  have hb : Below w.heap.size w v1 := by rw [hW]; exact (((((Below.refl _ _).alloc (by simp <;> omega) _).alloc (by simp <;> omega) _).alloc (by simp <;> omega) _).alloc (by simp <;> omega) _)
  have L1 := qH (L0.out.step hb)
  have Rx_1 := qH (show v1.heap[w.heap.size]? = some (.cells #[.bool (decide (m < 0)), .slice A (digs m.natAbs).length c, .int .i64 x] 26 (0, 0)) by rw [hW]; have := heap_alloc_new w (.cells #[.bool (decide (m < 0)), .slice A (digs m.natAbs).length c, .int .i64 x] 26); rw [heap_alloc_old _ _ (by simp <;> omega)]; rw [heap_alloc_old _ _ (by simp <;> omega)]; rw [heap_alloc_old _ _ (by simp <;> omega)]; simpa using this)
  have Gx : w.heap.size ≤ w.heap.size := by have := L0.out.1.size; omega
  have Ry_1 := qH (show v1.heap[w.heap.size + 1]? = some (.cells #[.bool (decide (n < 0)), .slice B (digs n.natAbs).length d, .int .i64 y] 26 (0, 0)) by rw [hW]; have := heap_alloc_new (w.alloc (.cells #[.bool (decide (m < 0)), .slice A (digs m.natAbs).length c, .int .i64 x] 26)) (.cells #[.bool (decide (n < 0)), .slice B (digs n.natAbs).length d, .int .i64 y] 26); rw [heap_alloc_old _ _ (by simp <;> omega)]; rw [heap_alloc_old _ _ (by simp <;> omega)]; simpa using this)
  have Gy : w.heap.size ≤ w.heap.size + 1 := by have := L0.out.1.size; omega
  have Nxy : w.heap.size < w.heap.size + 1 := by omega
  have Ra_1 := qH (show v1.heap[w.heap.size + 1 + 1]? = some (.cells #[.bool false, .slice none 0 0] 24 (0, 0)) by rw [hW]; have := heap_alloc_new ((w.alloc (.cells #[.bool (decide (m < 0)), .slice A (digs m.natAbs).length c, .int .i64 x] 26)).alloc (.cells #[.bool (decide (n < 0)), .slice B (digs n.natAbs).length d, .int .i64 y] 26)) (.cells #[.bool false, .slice none 0 0] 24); rw [heap_alloc_old _ _ (by simp <;> omega)]; simpa using this)
  have Ga : w.heap.size ≤ w.heap.size + 1 + 1 := by have := L0.out.1.size; omega
  have Nxa : w.heap.size < w.heap.size + 1 + 1 := by omega
  have Nya : w.heap.size + 1 < w.heap.size + 1 + 1 := by omega
  have Rb_1 := qH (show v1.heap[w.heap.size + 1 + 1 + 1]? = some (.cells #[.bool false, .slice none 0 0] 24 (0, 0)) by rw [hW]; have := heap_alloc_new (((w.alloc (.cells #[.bool (decide (m < 0)), .slice A (digs m.natAbs).length c, .int .i64 x] 26)).alloc (.cells #[.bool (decide (n < 0)), .slice B (digs n.natAbs).length d, .int .i64 y] 26)).alloc (.cells #[.bool false, .slice none 0 0] 24)) (.cells #[.bool false, .slice none 0 0] 24); simpa using this)
  have Gb : w.heap.size ≤ w.heap.size + 1 + 1 + 1 := by have := L0.out.1.size; omega
  have Nxb : w.heap.size < w.heap.size + 1 + 1 + 1 := by omega
  have Nyb : w.heap.size + 1 < w.heap.size + 1 + 1 + 1 := by omega
  have Nab : w.heap.size + 1 + 1 < w.heap.size + 1 + 1 + 1 := by omega
  clear hW hb
  have fx0 := row_c (i := 0) Rx_1.out rfl
  have zx0 := frozen_of_row _ _ 0 _ _ Rx_1.out
  have fx1 := row_c (i := 1) Rx_1.out rfl
  have zx1 := frozen_of_row _ _ 1 _ _ Rx_1.out
  have fx2 := row_c (i := 2) Rx_1.out rfl
  have zx2 := frozen_of_row _ _ 2 _ _ Rx_1.out
  have xx := heap_lt Rx_1.out
  have fy0 := row_c (i := 0) Ry_1.out rfl
  have zy0 := frozen_of_row _ _ 0 _ _ Ry_1.out
  have fy1 := row_c (i := 1) Ry_1.out rfl
  have zy1 := frozen_of_row _ _ 1 _ _ Ry_1.out
  have fy2 := row_c (i := 2) Ry_1.out rfl
  have zy2 := frozen_of_row _ _ 2 _ _ Ry_1.out
  have xy := heap_lt Ry_1.out
  have fa0 := row_c (i := 0) Ra_1.out rfl
  have za0 := frozen_of_row _ _ 0 _ _ Ra_1.out
  have fa1 := row_c (i := 1) Ra_1.out rfl
  have za1 := frozen_of_row _ _ 1 _ _ Ra_1.out
  have xa := heap_lt Ra_1.out
  have fb0 := row_c (i := 0) Rb_1.out rfl
  have zb0 := frozen_of_row _ _ 0 _ _ Rb_1.out
  have fb1 := row_c (i := 1) Rb_1.out rfl
  have zb1 := frozen_of_row _ _ 1 _ _ Rb_1.out
  have xb := heap_lt Rb_1.out
  go_region
  clear fx0 zx0 fx1 zx1 fx2 zx2 xx fy0 zy0 fy1 zy1 fy2 zy2 xy fa0 za0 fa1 za1 xa fb0 zb0 fb1 zb1 xb
  obtain ⟨w2, hW⟩ : ∃ W : World, W = ((v1.setCell ⟨w.heap.size + 1 + 1, 0, none⟩ (.bool (decide (m < 0)))).setCell ⟨w.heap.size + 1 + 1, 1, none⟩ (.slice A (digs m.natAbs).length c)) := ⟨_, rfl⟩
  rw [← hW]
  have hO : Only (w.heap.size + 1 + 1) v1 w2 := by rw [hW]; exact (((Only.refl (w.heap.size + 1 + 1) v1).setCell 0 _).setCell 1 _)
  have L2 := qH (live_only L1.out hO Ra_1.out noint_int Ga)
  have Rx_2 := qH ((hO.block _ (by omega)).trans Rx_1.out)
  have Ry_2 := qH ((hO.block _ (by omega)).trans Ry_1.out)
  have Rb_2 := qH ((hO.block _ (by omega)).trans Rb_1.out)
  have Ra_2 := qH (show w2.heap[w.heap.size + 1 + 1]? = some (.cells #[.bool (decide (m < 0)), .slice A (digs m.natAbs).length c] 24 (0, 0)) by rw [hW]; exact (heap_setCell_same _ _ 1 _ _ _ (heap_setCell_same _ _ 0 _ _ _ Ra_1.out)))
  clear hW hO
  obtain ⟨w3, hW⟩ : ∃ W : World, W = ((w2.setCell ⟨w.heap.size + 1 + 1 + 1, 0, none⟩ (.bool (decide (n < 0)))).setCell ⟨w.heap.size + 1 + 1 + 1, 1, none⟩ (.slice B (digs n.natAbs).length d)) := ⟨_, rfl⟩
  rw [← hW]
  have hO : Only (w.heap.size + 1 + 1 + 1) w2 w3 := by rw [hW]; exact (((Only.refl (w.heap.size + 1 + 1 + 1) w2).setCell 0 _).setCell 1 _)
  have L3 := qH (live_only L2.out hO Rb_2.out noint_int Gb)
  have Rx_3 := qH ((hO.block _ (by omega)).trans Rx_2.out)
  have Ry_3 := qH ((hO.block _ (by omega)).trans Ry_2.out)
  have Ra_3 := qH ((hO.block _ (by omega)).trans Ra_2.out)
  have Rb_3 := qH (show w3.heap[w.heap.size + 1 + 1 + 1]? = some (.cells #[.bool (decide (n < 0)), .slice B (digs n.natAbs).length d] 24 (0, 0)) by rw [hW]; exact (heap_setCell_same _ _ 1 _ _ _ (heap_setCell_same _ _ 0 _ _ _ Rb_2.out)))
  clear hW hO
  obtain ⟨w4, hW⟩ : ∃ W : World, W = w3.drew := ⟨_, rfl⟩
  rw [← hW]
  have hb : Below w3.heap.size w3 w4 := by rw [hW]; exact bd0 _
  have L4 := qH (L3.out.step hb)
  have Rx_4 := qH (cells_of Rx_3.out hb)
  have Ry_4 := qH (cells_of Ry_3.out hb)
  have Ra_4 := qH (cells_of Ra_3.out hb)
  have Rb_4 := qH (cells_of Rb_3.out hb)
  clear hW hb
  have fx0 := row_c (i := 0) Rx_4.out rfl
  have zx0 := frozen_of_row _ _ 0 _ _ Rx_4.out
  have fx1 := row_c (i := 1) Rx_4.out rfl
  have zx1 := frozen_of_row _ _ 1 _ _ Rx_4.out
  have fx2 := row_c (i := 2) Rx_4.out rfl
  have zx2 := frozen_of_row _ _ 2 _ _ Rx_4.out
  have xx := heap_lt Rx_4.out
  have fy0 := row_c (i := 0) Ry_4.out rfl
  have zy0 := frozen_of_row _ _ 0 _ _ Ry_4.out
  have fy1 := row_c (i := 1) Ry_4.out rfl
  have zy1 := frozen_of_row _ _ 1 _ _ Ry_4.out
  have fy2 := row_c (i := 2) Ry_4.out rfl
  have zy2 := frozen_of_row _ _ 2 _ _ Ry_4.out
  have xy := heap_lt Ry_4.out
  have fa0 := row_c (i := 0) Ra_4.out rfl
  have za0 := frozen_of_row _ _ 0 _ _ Ra_4.out
  have fa1 := row_c (i := 1) Ra_4.out rfl
  have za1 := frozen_of_row _ _ 1 _ _ Ra_4.out
  have xa := heap_lt Ra_4.out
  have fb0 := row_c (i := 0) Rb_4.out rfl
  have zb0 := frozen_of_row _ _ 0 _ _ Rb_4.out
  have fb1 := row_c (i := 1) Rb_4.out rfl
  have zb1 := frozen_of_row _ _ 1 _ _ Rb_4.out
  have xb := heap_lt Rb_4.out
  go_wp2_with fail
  refine (lift_z (x := x) (e0 := e0) (L4.out.get (A := A) (c := c) (xs := digs m.natAbs) (by simp)) lx.out ex bx HP.out).mono ?_
  rintro e w5 ⟨A5, c5, rfl, hd, hb⟩
  have L5 := qH ((L4.out.step hb).add hd)
  clear fx0 zx0 fx1 zx1 fx2 zx2 xx fy0 zy0 fy1 zy1 fy2 zy2 xy fa0 za0 fa1 za1 xa fb0 zb0 fb1 zb1 xb
  have Rx_5 := qH (cells_of Rx_4.out hb)
  have Ry_5 := qH (cells_of Ry_4.out hb)
  have Ra_5 := qH (cells_of Ra_4.out hb)
  have Rb_5 := qH (cells_of Rb_4.out hb)
  clear hb hd
  have fx0 := row_c (i := 0) Rx_5.out rfl
  have zx0 := frozen_of_row _ _ 0 _ _ Rx_5.out
  have fx1 := row_c (i := 1) Rx_5.out rfl
  have zx1 := frozen_of_row _ _ 1 _ _ Rx_5.out
  have fx2 := row_c (i := 2) Rx_5.out rfl
  have zx2 := frozen_of_row _ _ 2 _ _ Rx_5.out
  have xx := heap_lt Rx_5.out
  have fy0 := row_c (i := 0) Ry_5.out rfl
  have zy0 := frozen_of_row _ _ 0 _ _ Ry_5.out
  have fy1 := row_c (i := 1) Ry_5.out rfl
  have zy1 := frozen_of_row _ _ 1 _ _ Ry_5.out
  have fy2 := row_c (i := 2) Ry_5.out rfl
  have zy2 := frozen_of_row _ _ 2 _ _ Ry_5.out
  have xy := heap_lt Ry_5.out
  have fa0 := row_c (i := 0) Ra_5.out rfl
  have za0 := frozen_of_row _ _ 0 _ _ Ra_5.out
  have fa1 := row_c (i := 1) Ra_5.out rfl
  have za1 := frozen_of_row _ _ 1 _ _ Ra_5.out
  have xa := heap_lt Ra_5.out
  have fb0 := row_c (i := 0) Rb_5.out rfl
  have zb0 := frozen_of_row _ _ 0 _ _ Rb_5.out
  have fb1 := row_c (i := 1) Rb_5.out rfl
  have zb1 := frozen_of_row _ _ 1 _ _ Rb_5.out
  have xb := heap_lt Rb_5.out
  go_wp2_with fail
  obtain ⟨w6, hW⟩ : ∃ W : World, W = (w5.setCell ⟨w.heap.size + 1 + 1, 1, none⟩ (.slice A5 (digs p.natAbs).length c5)) := ⟨_, rfl⟩
  rw [← hW]
  have hO : Only (w.heap.size + 1 + 1) w5 w6 := by rw [hW]; exact ((Only.refl (w.heap.size + 1 + 1) w5).setCell 1 _)
  have L6 := qH (live_only L5.out hO Ra_5.out noint_int Ga)
  have Rx_6 := qH ((hO.block _ (by omega)).trans Rx_5.out)
  have Ry_6 := qH ((hO.block _ (by omega)).trans Ry_5.out)
  have Rb_6 := qH ((hO.block _ (by omega)).trans Rb_5.out)
  have Ra_6 := qH (show w6.heap[w.heap.size + 1 + 1]? = some (.cells #[.bool (decide (m < 0)), .slice A5 (digs p.natAbs).length c5] 24 (0, 0)) by rw [hW]; exact (heap_setCell_same _ _ 1 _ _ _ Ra_5.out))
  clear hW hO
  clear fx0 zx0 fx1 zx1 fx2 zx2 xx fy0 zy0 fy1 zy1 fy2 zy2 xy fa0 za0 fa1 za1 xa fb0 zb0 fb1 zb1 xb
  have fa0 := row_c (i := 0) Ra_6.out rfl
  have za0 := frozen_of_row _ _ 0 _ _ Ra_6.out
  have fa1 := row_c (i := 1) Ra_6.out rfl
  have za1 := frozen_of_row _ _ 1 _ _ Ra_6.out
  have xa := heap_lt Ra_6.out
  have fb0 := row_c (i := 0) Rb_6.out rfl
  have zb0 := frozen_of_row _ _ 0 _ _ Rb_6.out
  have fb1 := row_c (i := 1) Rb_6.out rfl
  have zb1 := frozen_of_row _ _ 1 _ _ Rb_6.out
  have xb := heap_lt Rb_6.out
  go_region
  clear fa0 za0 fa1 za1 xa fb0 zb0 fb1 zb1 xb
  obtain ⟨w7, hW⟩ : ∃ W : World, W = ((w6.setCell ⟨w.heap.size + 1 + 1, 0, none⟩ (.bool (decide (m < 0)))).setCell ⟨w.heap.size + 1 + 1, 1, none⟩ (.slice A5 (digs p.natAbs).length c5)) := ⟨_, rfl⟩
  rw [← hW]
  have hO : Only (w.heap.size + 1 + 1) w6 w7 := by rw [hW]; exact (((Only.refl (w.heap.size + 1 + 1) w6).setCell 0 _).setCell 1 _)
  have L7 := qH (live_only L6.out hO Ra_6.out noint_int Ga)
  have Rx_7 := qH ((hO.block _ (by omega)).trans Rx_6.out)
  have Ry_7 := qH ((hO.block _ (by omega)).trans Ry_6.out)
  have Rb_7 := qH ((hO.block _ (by omega)).trans Rb_6.out)
  have Ra_7 := qH (show w7.heap[w.heap.size + 1 + 1]? = some (.cells #[.bool (decide (m < 0)), .slice A5 (digs p.natAbs).length c5] 24 (0, 0)) by rw [hW]; exact (heap_setCell_same _ _ 1 _ _ _ (heap_setCell_same _ _ 0 _ _ _ Ra_6.out)))
  clear hW hO
  obtain ⟨w8, hW⟩ : ∃ W : World, W = ((w7.setCell ⟨w.heap.size + 1 + 1 + 1, 0, none⟩ (.bool (decide (n < 0)))).setCell ⟨w.heap.size + 1 + 1 + 1, 1, none⟩ (.slice B (digs n.natAbs).length d)) := ⟨_, rfl⟩
  rw [← hW]
  have hO : Only (w.heap.size + 1 + 1 + 1) w7 w8 := by rw [hW]; exact (((Only.refl (w.heap.size + 1 + 1 + 1) w7).setCell 0 _).setCell 1 _)
  have L8 := qH (live_only L7.out hO Rb_7.out noint_int Gb)
  have Rx_8 := qH ((hO.block _ (by omega)).trans Rx_7.out)
  have Ry_8 := qH ((hO.block _ (by omega)).trans Ry_7.out)
  have Ra_8 := qH ((hO.block _ (by omega)).trans Ra_7.out)
  have Rb_8 := qH (show w8.heap[w.heap.size + 1 + 1 + 1]? = some (.cells #[.bool (decide (n < 0)), .slice B (digs n.natAbs).length d] 24 (0, 0)) by rw [hW]; exact (heap_setCell_same _ _ 1 _ _ _ (heap_setCell_same _ _ 0 _ _ _ Rb_7.out)))
  clear hW hO
  obtain ⟨w9, hW⟩ : ∃ W : World, W = w8.drew := ⟨_, rfl⟩
  rw [← hW]
  have hb : Below w8.heap.size w8 w9 := by rw [hW]; exact bd0 _
  have L9 := qH (L8.out.step hb)
  have Rx_9 := qH (cells_of Rx_8.out hb)
  have Ry_9 := qH (cells_of Ry_8.out hb)
  have Ra_9 := qH (cells_of Ra_8.out hb)
  have Rb_9 := qH (cells_of Rb_8.out hb)
  clear hW hb
  have fa0 := row_c (i := 0) Ra_9.out rfl
  have za0 := frozen_of_row _ _ 0 _ _ Ra_9.out
  have fa1 := row_c (i := 1) Ra_9.out rfl
  have za1 := frozen_of_row _ _ 1 _ _ Ra_9.out
  have xa := heap_lt Ra_9.out
  have fb0 := row_c (i := 0) Rb_9.out rfl
  have zb0 := frozen_of_row _ _ 0 _ _ Rb_9.out
  have fb1 := row_c (i := 1) Rb_9.out rfl
  have zb1 := frozen_of_row _ _ 1 _ _ Rb_9.out
  have xb := heap_lt Rb_9.out
  go_wp2
  refine bodyPost_ret (v := .tuple #[.agg #[.bool (decide (m < 0)), .slice A5 (digs p.natAbs).length c5], .agg #[.bool (decide (n < 0)), .slice B (digs n.natAbs).length d], .int .i64 e0]) (by simp [results, Tryz.results79, go_sem, fa0, fa1, fb0, fb1]) rfl ?_
  refine ⟨A5, c5, B, d, ?_, L9.out.get (A := A5) (c := c5) (xs := digs p.natAbs) (by simp), L9.out.get (A := B) (c := d) (xs := digs n.natAbs) (by simp), L9.out.1⟩
  rw [SP.out]
theorem beside_eq (A B : Option Addr) (c d : Nat) (m n x y : Int) (w : World) (h : Dg w A c (digs m.natAbs)) (h' : Dg w B d (digs n.natAbs)) (hl : (digs m.natAbs).length ≤ 400000) (hl' : (digs n.natAbs).length ≤ 400000) (x0 : -131072 ≤ x) (x1 : x ≤ 131072) (y0 : -131072 ≤ y) (y1 : y ≤ 131072) {p q e0 : Int} (he : min x y = e0) (hp : upto m x e0 = p) (hq : upto n y e0 = q) (hc : x = y):
    Calls Tryz.prog 79 #[.agg #[.bool (decide (m < 0)), .slice A (digs m.natAbs).length c, .int .i64 x], .agg #[.bool (decide (n < 0)), .slice B (digs n.natAbs).length d, .int .i64 y]] w fun e w' => Ybs p q e0 w e w' := by
  have ex : e0 ≤ x := by omega
  have ey : e0 ≤ y := by omega
  have lx := qH hl
  have ly := qH hl'
  have HP := qH hp
  have HQ := qH hq
  have d1 : decide (e0 < x) = false := by simp; omega
  have d2 : decide (e0 < y) = false := by simp; omega
  have bx : x - e0 ≤ 1000000 := by omega
  have by_ : y - e0 ≤ 1000000 := by omega
  have bx0 : 0 ≤ x - e0 := by omega
  have by0 : 0 ≤ y - e0 := by omega
  obtain rfl : m = p := by rw [← hp, show x = e0 by omega, upto_self]
  obtain rfl : n = q := by rw [← hq, show y = e0 by omega, upto_self]
  have L0 := qH (((live_start w).add h).add h')
  clear hl hl' hp hq h h' hc
  go_enter Tryz.func79, Tryz.ntmps79
  go_wp2_with fail
  obtain ⟨v1, hW⟩ : ∃ W : World, W = ((((w.alloc (.cells #[.bool (decide (m < 0)), .slice A (digs m.natAbs).length c, .int .i64 x] 26)).alloc (.cells #[.bool (decide (n < 0)), .slice B (digs n.natAbs).length d, .int .i64 y] 26)).alloc (.cells #[.bool false, .slice none 0 0] 24)).alloc (.cells #[.bool false, .slice none 0 0] 24)) := ⟨_, rfl⟩
  rw [← hW]
  have hb : Below w.heap.size w v1 := by rw [hW]; exact (((((Below.refl _ _).alloc (by simp <;> omega) _).alloc (by simp <;> omega) _).alloc (by simp <;> omega) _).alloc (by simp <;> omega) _)
  have L1 := qH (L0.out.step hb)
  have Rx_1 := qH (show v1.heap[w.heap.size]? = some (.cells #[.bool (decide (m < 0)), .slice A (digs m.natAbs).length c, .int .i64 x] 26 (0, 0)) by rw [hW]; have := heap_alloc_new w (.cells #[.bool (decide (m < 0)), .slice A (digs m.natAbs).length c, .int .i64 x] 26); rw [heap_alloc_old _ _ (by simp <;> omega)]; rw [heap_alloc_old _ _ (by simp <;> omega)]; rw [heap_alloc_old _ _ (by simp <;> omega)]; simpa using this)
  have Gx : w.heap.size ≤ w.heap.size := by have := L0.out.1.size; omega
  have Ry_1 := qH (show v1.heap[w.heap.size + 1]? = some (.cells #[.bool (decide (n < 0)), .slice B (digs n.natAbs).length d, .int .i64 y] 26 (0, 0)) by rw [hW]; have := heap_alloc_new (w.alloc (.cells #[.bool (decide (m < 0)), .slice A (digs m.natAbs).length c, .int .i64 x] 26)) (.cells #[.bool (decide (n < 0)), .slice B (digs n.natAbs).length d, .int .i64 y] 26); rw [heap_alloc_old _ _ (by simp <;> omega)]; rw [heap_alloc_old _ _ (by simp <;> omega)]; simpa using this)
  have Gy : w.heap.size ≤ w.heap.size + 1 := by have := L0.out.1.size; omega
  have Nxy : w.heap.size < w.heap.size + 1 := by omega
  have Ra_1 := qH (show v1.heap[w.heap.size + 1 + 1]? = some (.cells #[.bool false, .slice none 0 0] 24 (0, 0)) by rw [hW]; have := heap_alloc_new ((w.alloc (.cells #[.bool (decide (m < 0)), .slice A (digs m.natAbs).length c, .int .i64 x] 26)).alloc (.cells #[.bool (decide (n < 0)), .slice B (digs n.natAbs).length d, .int .i64 y] 26)) (.cells #[.bool false, .slice none 0 0] 24); rw [heap_alloc_old _ _ (by simp <;> omega)]; simpa using this)
  have Ga : w.heap.size ≤ w.heap.size + 1 + 1 := by have := L0.out.1.size; omega
  have Nxa : w.heap.size < w.heap.size + 1 + 1 := by omega
  have Nya : w.heap.size + 1 < w.heap.size + 1 + 1 := by omega
  have Rb_1 := qH (show v1.heap[w.heap.size + 1 + 1 + 1]? = some (.cells #[.bool false, .slice none 0 0] 24 (0, 0)) by rw [hW]; have := heap_alloc_new (((w.alloc (.cells #[.bool (decide (m < 0)), .slice A (digs m.natAbs).length c, .int .i64 x] 26)).alloc (.cells #[.bool (decide (n < 0)), .slice B (digs n.natAbs).length d, .int .i64 y] 26)).alloc (.cells #[.bool false, .slice none 0 0] 24)) (.cells #[.bool false, .slice none 0 0] 24); simpa using this)
  have Gb : w.heap.size ≤ w.heap.size + 1 + 1 + 1 := by have := L0.out.1.size; omega
  have Nxb : w.heap.size < w.heap.size + 1 + 1 + 1 := by omega
  have Nyb : w.heap.size + 1 < w.heap.size + 1 + 1 + 1 := by omega
  have Nab : w.heap.size + 1 + 1 < w.heap.size + 1 + 1 + 1 := by omega
  clear hW hb
  have fx0 := row_c (i := 0) Rx_1.out rfl
  have zx0 := frozen_of_row _ _ 0 _ _ Rx_1.out
  have fx1 := row_c (i := 1) Rx_1.out rfl
  have zx1 := frozen_of_row _ _ 1 _ _ Rx_1.out
  have fx2 := row_c (i := 2) Rx_1.out rfl
  have zx2 := frozen_of_row _ _ 2 _ _ Rx_1.out
  have xx := heap_lt Rx_1.out
  have fy0 := row_c (i := 0) Ry_1.out rfl
  have zy0 := frozen_of_row _ _ 0 _ _ Ry_1.out
  have fy1 := row_c (i := 1) Ry_1.out rfl
  have zy1 := frozen_of_row _ _ 1 _ _ Ry_1.out
  have fy2 := row_c (i := 2) Ry_1.out rfl
  have zy2 := frozen_of_row _ _ 2 _ _ Ry_1.out
  have xy := heap_lt Ry_1.out
  have fa0 := row_c (i := 0) Ra_1.out rfl
  have za0 := frozen_of_row _ _ 0 _ _ Ra_1.out
  have fa1 := row_c (i := 1) Ra_1.out rfl
  have za1 := frozen_of_row _ _ 1 _ _ Ra_1.out
  have xa := heap_lt Ra_1.out
  have fb0 := row_c (i := 0) Rb_1.out rfl
  have zb0 := frozen_of_row _ _ 0 _ _ Rb_1.out
  have fb1 := row_c (i := 1) Rb_1.out rfl
  have zb1 := frozen_of_row _ _ 1 _ _ Rb_1.out
  have xb := heap_lt Rb_1.out
  go_region
  clear fx0 zx0 fx1 zx1 fx2 zx2 xx fy0 zy0 fy1 zy1 fy2 zy2 xy fa0 za0 fa1 za1 xa fb0 zb0 fb1 zb1 xb
  obtain ⟨w2, hW⟩ : ∃ W : World, W = ((v1.setCell ⟨w.heap.size + 1 + 1, 0, none⟩ (.bool (decide (m < 0)))).setCell ⟨w.heap.size + 1 + 1, 1, none⟩ (.slice A (digs m.natAbs).length c)) := ⟨_, rfl⟩
  rw [← hW]
  have hO : Only (w.heap.size + 1 + 1) v1 w2 := by rw [hW]; exact (((Only.refl (w.heap.size + 1 + 1) v1).setCell 0 _).setCell 1 _)
  have L2 := qH (live_only L1.out hO Ra_1.out noint_int Ga)
  have Rx_2 := qH ((hO.block _ (by omega)).trans Rx_1.out)
  have Ry_2 := qH ((hO.block _ (by omega)).trans Ry_1.out)
  have Rb_2 := qH ((hO.block _ (by omega)).trans Rb_1.out)
  have Ra_2 := qH (show w2.heap[w.heap.size + 1 + 1]? = some (.cells #[.bool (decide (m < 0)), .slice A (digs m.natAbs).length c] 24 (0, 0)) by rw [hW]; exact (heap_setCell_same _ _ 1 _ _ _ (heap_setCell_same _ _ 0 _ _ _ Ra_1.out)))
  clear hW hO
  obtain ⟨w3, hW⟩ : ∃ W : World, W = ((w2.setCell ⟨w.heap.size + 1 + 1 + 1, 0, none⟩ (.bool (decide (n < 0)))).setCell ⟨w.heap.size + 1 + 1 + 1, 1, none⟩ (.slice B (digs n.natAbs).length d)) := ⟨_, rfl⟩
  rw [← hW]
  have hO : Only (w.heap.size + 1 + 1 + 1) w2 w3 := by rw [hW]; exact (((Only.refl (w.heap.size + 1 + 1 + 1) w2).setCell 0 _).setCell 1 _)
  have L3 := qH (live_only L2.out hO Rb_2.out noint_int Gb)
  have Rx_3 := qH ((hO.block _ (by omega)).trans Rx_2.out)
  have Ry_3 := qH ((hO.block _ (by omega)).trans Ry_2.out)
  have Ra_3 := qH ((hO.block _ (by omega)).trans Ra_2.out)
  have Rb_3 := qH (show w3.heap[w.heap.size + 1 + 1 + 1]? = some (.cells #[.bool (decide (n < 0)), .slice B (digs n.natAbs).length d] 24 (0, 0)) by rw [hW]; exact (heap_setCell_same _ _ 1 _ _ _ (heap_setCell_same _ _ 0 _ _ _ Rb_2.out)))
  clear hW hO
  obtain ⟨w4, hW⟩ : ∃ W : World, W = w3.drew := ⟨_, rfl⟩
  rw [← hW]
  have hb : Below w3.heap.size w3 w4 := by rw [hW]; exact bd0 _
  have L4 := qH (L3.out.step hb)
  have Rx_4 := qH (cells_of Rx_3.out hb)
  have Ry_4 := qH (cells_of Ry_3.out hb)
  have Ra_4 := qH (cells_of Ra_3.out hb)
  have Rb_4 := qH (cells_of Rb_3.out hb)
  clear hW hb
  have fx0 := row_c (i := 0) Rx_4.out rfl
  have zx0 := frozen_of_row _ _ 0 _ _ Rx_4.out
  have fx1 := row_c (i := 1) Rx_4.out rfl
  have zx1 := frozen_of_row _ _ 1 _ _ Rx_4.out
  have fx2 := row_c (i := 2) Rx_4.out rfl
  have zx2 := frozen_of_row _ _ 2 _ _ Rx_4.out
  have xx := heap_lt Rx_4.out
  have fy0 := row_c (i := 0) Ry_4.out rfl
  have zy0 := frozen_of_row _ _ 0 _ _ Ry_4.out
  have fy1 := row_c (i := 1) Ry_4.out rfl
  have zy1 := frozen_of_row _ _ 1 _ _ Ry_4.out
  have fy2 := row_c (i := 2) Ry_4.out rfl
  have zy2 := frozen_of_row _ _ 2 _ _ Ry_4.out
  have xy := heap_lt Ry_4.out
  go_wp2_with fail
  clear fx0 zx0 fx1 zx1 fx2 zx2 xx fy0 zy0 fy1 zy1 fy2 zy2 xy
  have fa0 := row_c (i := 0) Ra_4.out rfl
  have za0 := frozen_of_row _ _ 0 _ _ Ra_4.out
  have fa1 := row_c (i := 1) Ra_4.out rfl
  have za1 := frozen_of_row _ _ 1 _ _ Ra_4.out
  have xa := heap_lt Ra_4.out
  have fb0 := row_c (i := 0) Rb_4.out rfl
  have zb0 := frozen_of_row _ _ 0 _ _ Rb_4.out
  have fb1 := row_c (i := 1) Rb_4.out rfl
  have zb1 := frozen_of_row _ _ 1 _ _ Rb_4.out
  have xb := heap_lt Rb_4.out
  go_region
  clear fa0 za0 fa1 za1 xa fb0 zb0 fb1 zb1 xb
  obtain ⟨w5, hW⟩ : ∃ W : World, W = ((w4.setCell ⟨w.heap.size + 1 + 1, 0, none⟩ (.bool (decide (m < 0)))).setCell ⟨w.heap.size + 1 + 1, 1, none⟩ (.slice A (digs m.natAbs).length c)) := ⟨_, rfl⟩
  rw [← hW]
  have hO : Only (w.heap.size + 1 + 1) w4 w5 := by rw [hW]; exact (((Only.refl (w.heap.size + 1 + 1) w4).setCell 0 _).setCell 1 _)
  have L5 := qH (live_only L4.out hO Ra_4.out noint_int Ga)
  have Rx_5 := qH ((hO.block _ (by omega)).trans Rx_4.out)
  have Ry_5 := qH ((hO.block _ (by omega)).trans Ry_4.out)
  have Rb_5 := qH ((hO.block _ (by omega)).trans Rb_4.out)
  have Ra_5 := qH (show w5.heap[w.heap.size + 1 + 1]? = some (.cells #[.bool (decide (m < 0)), .slice A (digs m.natAbs).length c] 24 (0, 0)) by rw [hW]; exact (heap_setCell_same _ _ 1 _ _ _ (heap_setCell_same _ _ 0 _ _ _ Ra_4.out)))
  clear hW hO
  obtain ⟨w6, hW⟩ : ∃ W : World, W = ((w5.setCell ⟨w.heap.size + 1 + 1 + 1, 0, none⟩ (.bool (decide (n < 0)))).setCell ⟨w.heap.size + 1 + 1 + 1, 1, none⟩ (.slice B (digs n.natAbs).length d)) := ⟨_, rfl⟩
  rw [← hW]
  have hO : Only (w.heap.size + 1 + 1 + 1) w5 w6 := by rw [hW]; exact (((Only.refl (w.heap.size + 1 + 1 + 1) w5).setCell 0 _).setCell 1 _)
  have L6 := qH (live_only L5.out hO Rb_5.out noint_int Gb)
  have Rx_6 := qH ((hO.block _ (by omega)).trans Rx_5.out)
  have Ry_6 := qH ((hO.block _ (by omega)).trans Ry_5.out)
  have Ra_6 := qH ((hO.block _ (by omega)).trans Ra_5.out)
  have Rb_6 := qH (show w6.heap[w.heap.size + 1 + 1 + 1]? = some (.cells #[.bool (decide (n < 0)), .slice B (digs n.natAbs).length d] 24 (0, 0)) by rw [hW]; exact (heap_setCell_same _ _ 1 _ _ _ (heap_setCell_same _ _ 0 _ _ _ Rb_5.out)))
  clear hW hO
  obtain ⟨w7, hW⟩ : ∃ W : World, W = w6.drew := ⟨_, rfl⟩
  rw [← hW]
  have hb : Below w6.heap.size w6 w7 := by rw [hW]; exact bd0 _
  have L7 := qH (L6.out.step hb)
  have Rx_7 := qH (cells_of Rx_6.out hb)
  have Ry_7 := qH (cells_of Ry_6.out hb)
  have Ra_7 := qH (cells_of Ra_6.out hb)
  have Rb_7 := qH (cells_of Rb_6.out hb)
  clear hW hb
  have fa0 := row_c (i := 0) Ra_7.out rfl
  have za0 := frozen_of_row _ _ 0 _ _ Ra_7.out
  have fa1 := row_c (i := 1) Ra_7.out rfl
  have za1 := frozen_of_row _ _ 1 _ _ Ra_7.out
  have xa := heap_lt Ra_7.out
  have fb0 := row_c (i := 0) Rb_7.out rfl
  have zb0 := frozen_of_row _ _ 0 _ _ Rb_7.out
  have fb1 := row_c (i := 1) Rb_7.out rfl
  have zb1 := frozen_of_row _ _ 1 _ _ Rb_7.out
  have xb := heap_lt Rb_7.out
  go_wp2
  refine bodyPost_ret (v := .tuple #[.agg #[.bool (decide (m < 0)), .slice A (digs m.natAbs).length c], .agg #[.bool (decide (n < 0)), .slice B (digs n.natAbs).length d], .int .i64 e0]) (by simp [results, Tryz.results79, go_sem, fa0, fa1, fb0, fb1]) rfl ?_
  refine ⟨A, c, B, d, ?_, L7.out.get (A := A) (c := c) (xs := digs m.natAbs) (by simp), L7.out.get (A := B) (c := d) (xs := digs n.natAbs) (by simp), L7.out.1⟩
  rfl
end Go.Proofs.YtdmfapgclppmhaaGreatDoor
end
