import Derived.Test.YtaciohjobenipaaDoorMB5
import Derived.Test.YtaciohjobenipaaDoorMB3
import Derived.Test.YtaciohjobenipaaDoorMB2
import Derived.Test.YtaciohjobenipaaDoorMB4
import Derived.Test.YtaciohjobenipaaDoorTie
import Derived.Test.YtaciohjobenipaaDoorCards
import Derived.SevenTiedAt
import Derived.OpenShut
import Derived.ChangeMaps5
section
/-
  Both sides with one answer: Make, From, Half.
-/
namespace Go.Proofs.YtaciohjobenipaaDoor
open Go.RowKit
set_option linter.unusedSimpArgs false
set_option linter.unusedVariables false
theorem zero_ybU {w w' : World} (h : Below w.heap.size w w') : Yb 0 0 false w (.returned (.tuple #[.agg #[.bool false, .slice none 0 0, .int .i64 0], .bool false])) w' := by
  have e0 : digs (0 : Int).natAbs = [] := digs_zero
  exact ⟨none, 0, by rw [e0]; rfl, by rw [e0]; exact Dg.nil_ _ _, h⟩

set_option maxHeartbeats 4000000 in
set_option maxRecDepth 100000 in
theorem r5make_l (A : Option Addr) (c : Nat) (s : Bool) (xs : List Nat) (y : Int) (w : World) (h : Dg w A c xs) (hl : xs.length ≤ 9000) (hy : y < -100000):
    Calls Tryd.prog 9 #[.agg #[.bool s, .slice A xs.length c], .int .i64 y] w fun e w' => e = .returned (.tuple #[.agg #[.bool false, .slice none 0 0, .int .i64 0], .bool false]) ∧ Below w.heap.size w w' := by
  have d1 : decide (y < -100000) = true := by simp; omega
  have L0 := Lib.hid ((live_start w).add h)
  clear h hl hy
  go_enter Tryd.func9, Tryd.ntmps9
  go_wp2_with fail
  obtain ⟨v1, hW, hb, Ri_1, Rr_1⟩ := new2 w (.cells #[.bool s, .slice A xs.length c] 24) (.cells #[.bool false, .slice none 0 0, .int .i64 0] 26)
  rw [← hW]
  have L1 := ls L0 hb
  have Gi := gl0 L0.out
  have Gr := gl1 L0.out
  have Nir : w.heap.size < w.heap.size + 1 := by omega
  clear hW hb
  obtain ⟨fr0, zr0, fr1, zr1, fr2, zr2, xr⟩ := ly3 Rr_1.out
  refine bodyPost_ret (v := .tuple #[.agg #[.bool false, .slice none 0 0, .int .i64 0], .bool false]) (by simp [results, Tryd.results9, go_sem, fr0, fr1, fr2]) rfl ?_
  exact ⟨rfl, L1.out.1⟩

set_option maxHeartbeats 4000000 in
set_option maxRecDepth 100000 in
theorem r5make_h (A : Option Addr) (c : Nat) (s : Bool) (xs : List Nat) (y : Int) (w : World) (h : Dg w A c xs) (hl : xs.length ≤ 9000) (hy : 100000 < y):
    Calls Tryd.prog 9 #[.agg #[.bool s, .slice A xs.length c], .int .i64 y] w fun e w' => e = .returned (.tuple #[.agg #[.bool false, .slice none 0 0, .int .i64 0], .bool false]) ∧ Below w.heap.size w w' := by
  have d1 : decide (y < -100000) = false := by simp; omega
  have d2 : decide (100000 < y) = true := by simp; omega
  have L0 := Lib.hid ((live_start w).add h)
  clear h hl hy
  go_enter Tryd.func9, Tryd.ntmps9
  go_wp2_with fail
  obtain ⟨v1, hW, hb, Ri_1, Rr_1⟩ := new2 w (.cells #[.bool s, .slice A xs.length c] 24) (.cells #[.bool false, .slice none 0 0, .int .i64 0] 26)
  rw [← hW]
  have L1 := ls L0 hb
  have Gi := gl0 L0.out
  have Gr := gl1 L0.out
  have Nir : w.heap.size < w.heap.size + 1 := by omega
  clear hW hb
  obtain ⟨fr0, zr0, fr1, zr1, fr2, zr2, xr⟩ := ly3 Rr_1.out
  refine bodyPost_ret (v := .tuple #[.agg #[.bool false, .slice none 0 0, .int .i64 0], .bool false]) (by simp [results, Tryd.results9, go_sem, fr0, fr1, fr2]) rfl ?_
  exact ⟨rfl, L1.out.1⟩

set_option maxHeartbeats 4000000 in
set_option maxRecDepth 100000 in
theorem r5make_o (A : Option Addr) (c : Nat) (s : Bool) (xs : List Nat) (y M E : Int) (w : World) (h : Dg w A c xs) (hl : xs.length ≤ 9000) (y0 : -100000 ≤ y) (y1 : y ≤ 100000) (hM : nm (sg s (val xs)) = M) (hE : nx (sg s (val xs)) y = E) (hq : inR M E = false):
    Calls Tryd.prog 9 #[.agg #[.bool s, .slice A xs.length c], .int .i64 y] w fun e w' => e = .returned (.tuple #[.agg #[.bool false, .slice none 0 0, .int .i64 0], .bool false]) ∧ Below w.heap.size w w' := by
  have d1 : decide (y < -100000) = false := by simp; omega
  have d2 : decide (100000 < y) = false := by simp; omega
  have HL := Lib.hid hl
  have HM := Lib.hid hM
  have HE := Lib.hid hE
  have HQ := Lib.hid hq
  have lz0 : (digs (sg s (val xs)).natAbs).length ≤ 100000 := by rw [sg_abs]; exact Nat.le_trans (digs_len_le h.2.1) (by omega)
  have LZ := Lib.hid lz0
  have BE := nx_bdU (z := sg s (val xs)) (y := y) lz0 (by omega) (by omega)
  rw [hE] at BE
  have BE := Lib.hid BE
  have LM := nm_len (sg s (val xs))
  rw [hM] at LM
  have LM := Lib.hid (Nat.le_trans LM lz0)
  have Y := Lib.hid (show -1000000 ≤ y ∧ y ≤ 1000000 by omega)
  have L0 := Lib.hid ((live_start w).add h)
  clear h hl hM hE hq lz0 y0 y1
  go_enter Tryd.func9, Tryd.ntmps9
  go_wp2_with fail
  obtain ⟨v1, hW, hb, Ri_1, Rr_1⟩ := new2 w (.cells #[.bool s, .slice A xs.length c] 24) (.cells #[.bool false, .slice none 0 0, .int .i64 0] 26)
  rw [← hW]
  have L1 := ls L0 hb
  have Gi := gl0 L0.out
  have Gr := gl1 L0.out
  have Nir : w.heap.size < w.heap.size + 1 := by omega
  clear hW hb
  refine (rnorm_z (z := sg s (val xs)) (L1.out.get (A := A) (c := c) (xs := xs) (by simp)) (Nat.le_trans HL.out (by omega)) rfl LZ.out Y.out.1 Y.out.2 HM.out HE.out).mono ?_
  rintro e w2 ⟨A2, c2, rfl, hd, hb⟩
  have L2 := la L1 hb hd
  have Ri_2 := co Ri_1 hb
  have Rr_2 := co Rr_1 hb
  clear hb hd
  go_wp2_with fail
  obtain ⟨w3, hW, hb, Rx_3⟩ := new1 w2 (.cells #[.bool (decide (M < 0)), .slice A2 (digs M.natAbs).length c2, .int .i64 E] 26)
  rw [← hW]
  have L3 := ls L2 hb
  have Ri_3 := co Ri_2 hb
  have Rr_3 := co Rr_2 hb
  have Gx := gl0 L2.out
  have Nix := nl0 Ri_2.out
  have Nrx := nl0 Rr_2.out
  clear hW hb
  refine (r5inr_any (L3.out.get (A := A2) (c := c2) (xs := digs M.natAbs) (by simp)) LM.out BE.out.1 BE.out.2 HQ.out).mono ?_
  rintro e w4 ⟨rfl, hb⟩
  have L4 := ls L3 hb
  have Ri_4 := co Ri_3 hb
  have Rr_4 := co Rr_3 hb
  have Rx_4 := co Rx_3 hb
  clear hb 
  obtain ⟨fr0, zr0, fr1, zr1, fr2, zr2, xr⟩ := ly3 Rr_4.out
  go_wp2
  refine bodyPost_ret (v := .tuple #[.agg #[.bool false, .slice none 0 0, .int .i64 0], .bool false]) (by simp [results, Tryd.results9, go_sem, fr0, fr1, fr2]) rfl ?_
  exact ⟨rfl, (fin3 L4.out Rr_4.out noint3 Gr).1⟩

theorem make_both (s : Bool) {xs : List Nat} (y : Int) (hl : xs.length ≤ 9000) : ∃ (K F : Int) (q : Bool), (digs K.natAbs).length ≤ 10000 ∧ (∀ (A : Option Addr) (c : Nat) (w : World), Dg w A c xs → T32 w → Calls Tryd.prog 8 #[.agg #[.bool s, .slice A xs.length c], .int .i64 y] w fun e w' => Yb K F q w e w') ∧ (∀ (A : Option Addr) (c : Nat) (w : World), Dg w A c xs → Calls Tryd.prog 9 #[.agg #[.bool s, .slice A xs.length c], .int .i64 y] w fun e w' => Yb K F q w e w') := by
  by_cases h1 : y < -100000
  · refine ⟨0, 0, false, d00, fun A c w h hT => ?_, fun A c w h => ?_⟩
    · refine (make_l A c s xs y w h (by omega) h1).mono ?_
      rintro e w' ⟨rfl, hb⟩; exact zero_ybU hb
    · refine (r5make_l A c s xs y w h hl h1).mono ?_
      rintro e w' ⟨rfl, hb⟩; exact zero_ybU hb
  · by_cases h2 : 100000 < y
    · refine ⟨0, 0, false, d00, fun A c w h hT => ?_, fun A c w h => ?_⟩
      · refine (make_h A c s xs y w h (by omega) h2).mono ?_
        rintro e w' ⟨rfl, hb⟩; exact zero_ybU hb
      · refine (r5make_h A c s xs y w h hl h2).mono ?_
        rintro e w' ⟨rfl, hb⟩; exact zero_ybU hb
    · obtain ⟨M, hM⟩ : ∃ M, nm (sg s (val xs)) = M := ⟨_, rfl⟩
      obtain ⟨E, hE⟩ : ∃ M, nx (sg s (val xs)) y = M := ⟨_, rfl⟩
      cases hq : inR M E
      · refine ⟨0, 0, false, d00, fun A c w h hT => ?_, fun A c w h => ?_⟩
        · refine (make_o A c s xs y M E w h (by omega) hT (by omega) (by omega) hM hE hq).mono ?_
          rintro e w' ⟨rfl, hb⟩; exact zero_ybU hb
        · refine (r5make_o A c s xs y M E w h hl (by omega) (by omega) hM hE hq).mono ?_
          rintro e w' ⟨rfl, hb⟩; exact zero_ybU hb
      · exact ⟨M, E, true, inr_len hq, fun A c w h hT => make_yes A c s xs y M E w h (by omega) hT (by omega) (by omega) hM hE hq, fun A c w h => r5make_yes A c s xs y M E w h hl (by omega) (by omega) hM hE hq⟩

set_option maxHeartbeats 4000000 in
set_option maxRecDepth 100000 in
theorem r5from_t (n M E : Int) (w : World) (h0 : -9223372036854775808 ≤ n) (h1 : n ≤ 9223372036854775807) (hM : nm n = M) (hE : nx n 0 = E):
    Calls Tryd.prog 12 #[.int .i64 n] w fun e w' => Yr M E w e w' := by
  have FR := Lib.hid (fun W => rzfrom_any n W h0 h1)
  have LN := Lib.hid (show (digs n.natAbs).length ≤ 2 from digs_small (by omega))
  have HM := Lib.hid hM
  have HE := Lib.hid hE
  have L0 := Lib.hid (live_start w)
  clear h0 h1 hM hE
  go_enter Tryd.func12, Tryd.ntmps12
  go_wp2_with fail
  obtain ⟨v1, hW, hb, Rr_1⟩ := new1 w (.cells #[.bool false, .slice none 0 0, .int .i64 0] 26)
  rw [← hW]
  have L1 := ls L0 hb
  have Gr := gl0 L0.out
  clear hW hb
  refine (FR.out _).mono ?_
  rintro e w2 ⟨A2, c2, rfl, hd, hb⟩
  have L2 := la L1 hb hd
  have Rr_2 := co Rr_1 hb
  clear hb hd
  go_wp2_with fail
  refine (rnorm_j (L2.out.get (A := A2) (c := c2) (xs := digs n.natAbs) (by simp)) (Nat.le_trans LN.out (by omega)) (by omega) (by omega) HM.out HE.out).mono ?_
  rintro e w3 ⟨A3, c3, rfl, hd, hb⟩
  have L3 := la L2 hb hd
  have Rr_3 := co Rr_2 hb
  clear hb hd
  obtain ⟨fr0, zr0, fr1, zr1, fr2, zr2, xr⟩ := ly3 Rr_3.out
  go_wp2
  refine bodyPost_ret (v := .agg #[.bool (decide (M < 0)), .slice A3 (digs M.natAbs).length c3, .int .i64 E]) (by simp [results, Tryd.results12, go_sem, fr0, fr1, fr2]) rfl ?_
  
  refine ⟨A3, c3, rfl, ?_, ?_⟩
  · exact (fin3 L3.out Rr_3.out noint3 Gr).get (A := A3) (c := c3) (xs := digs M.natAbs) (by simp)
  · exact (fin3 L3.out Rr_3.out noint3 Gr).1

theorem from_both (n : Int) (h0 : -9223372036854775808 ≤ n) (h1 : n ≤ 9223372036854775807) : ∃ K F : Int, (digs K.natAbs).length ≤ 10000 ∧ (∀ w : World, T32 w → Calls Tryd.prog 11 #[.int .i64 n] w fun e w' => Yr K F w e w') ∧ (∀ w : World, Calls Tryd.prog 12 #[.int .i64 n] w fun e w' => Yr K F w e w') := by
  have l1 : (digs n.natAbs).length ≤ 2 := digs_small (by omega)
  exact ⟨nm n, nx n 0, by have := nm_len n; omega, fun w hT => from_yes n _ _ w hT h0 h1 rfl rfl, fun w => r5from_t n _ _ w h0 h1 rfl rfl⟩

set_option maxHeartbeats 4000000 in
set_option maxRecDepth 100000 in
theorem half_t (x u K F : Int) (q : Bool) (w : World) (hm : ∀ (A : Option Addr) (c : Nat) (W : World), Dg W A c (digs u.natAbs) → T32 W → Calls Tryd.prog 8 #[.agg #[.bool (decide (u < 0)), .slice A (digs u.natAbs).length c], .int .i64 x] W fun e w' => Yb K F q W e w') (hT : T32 w) (hu : u = 1):
    Calls Tryd.prog 13 #[.int .i64 x] w fun e w' => Yr K F w e w' := by
  have FR : ∀ W, Calls Tryd.prog 43 #[.int .i64 1] W fun e w' => Zr u W e w' := fun W => by subst hu; exact zfrom_any 1 W (by omega) (by omega)
  have FR := Lib.hid FR
  have MY := Lib.hid hm
  have HT := Lib.hid hT
  clear hT
  have L0 := Lib.hid (live_start w)
  clear hu hm
  go_enter Tryd.func13, Tryd.ntmps13
  go_wp2_with fail
  obtain ⟨v1, hW, hb, Rr_1⟩ := new1 w (.cells #[.bool false, .slice none 0 0, .int .i64 0] 26)
  rw [← hW]
  have L1 := ls L0 hb
  have Gr := gl0 L0.out
  clear hW hb
  refine (FR.out _).mono ?_
  rintro e w2 ⟨A2, c2, rfl, hd, hb⟩
  have L2 := la L1 hb hd
  have Rr_2 := co Rr_1 hb
  clear hb hd
  go_wp2_with fail
  refine (MY.out A2 c2 _ (L2.out.get (A := A2) (c := c2) (xs := digs u.natAbs) (by simp)) (t32_live HT.out L2.out)).mono ?_
  rintro e w3 ⟨A3, c3, rfl, hd, hb⟩
  have L3 := la L2 hb hd
  have Rr_3 := co Rr_2 hb
  clear hb hd
  obtain ⟨fr0, zr0, fr1, zr1, fr2, zr2, xr⟩ := ly3 Rr_3.out
  go_wp2
  have al : ∀ (V : World) (o : Obj) (i : Nat), w.heap.size < V.heap.size → (V.alloc o).cell? ⟨w.heap.size, i, none⟩ = V.cell? ⟨w.heap.size, i, none⟩ := fun V o i h => (below1 V o).cell (p := ⟨_, i, none⟩) h
  refine bodyPost_ret (v := .agg #[.bool (decide (K < 0)), .slice A3 (digs K.natAbs).length c3, .int .i64 F]) (by simp [results, Tryd.results13, go_sem, al, xr, fr0, fr1, fr2]) rfl ?_
  refine ⟨A3, c3, rfl, ?_, ?_⟩
  · exact ((fin3 L3.out Rr_3.out noint3 Gr).step (below1 _ _)).get (A := A3) (c := c3) (xs := digs K.natAbs) (by simp)
  · exact ((fin3 L3.out Rr_3.out noint3 Gr).step (below1 _ _)).1

set_option maxHeartbeats 4000000 in
set_option maxRecDepth 100000 in
theorem r5half_t (x u K F : Int) (q : Bool) (w : World) (hm : ∀ (A : Option Addr) (c : Nat) (W : World), Dg W A c (digs u.natAbs) → Calls Tryd.prog 9 #[.agg #[.bool (decide (u < 0)), .slice A (digs u.natAbs).length c], .int .i64 x] W fun e w' => Yb K F q W e w') (hu : u = 1):
    Calls Tryd.prog 14 #[.int .i64 x] w fun e w' => Yr K F w e w' := by
  have FR : ∀ W, Calls Tryd.prog 44 #[.int .i64 1] W fun e w' => Zr u W e w' := fun W => by subst hu; exact rzfrom_any 1 W (by omega) (by omega)
  have FR := Lib.hid FR
  have MY := Lib.hid hm
  have L0 := Lib.hid (live_start w)
  clear hu hm
  go_enter Tryd.func14, Tryd.ntmps14
  go_wp2_with fail
  obtain ⟨v1, hW, hb, Rr_1⟩ := new1 w (.cells #[.bool false, .slice none 0 0, .int .i64 0] 26)
  rw [← hW]
  have L1 := ls L0 hb
  have Gr := gl0 L0.out
  clear hW hb
  refine (FR.out _).mono ?_
  rintro e w2 ⟨A2, c2, rfl, hd, hb⟩
  have L2 := la L1 hb hd
  have Rr_2 := co Rr_1 hb
  clear hb hd
  go_wp2_with fail
  refine (MY.out A2 c2 _ (L2.out.get (A := A2) (c := c2) (xs := digs u.natAbs) (by simp))).mono ?_
  rintro e w3 ⟨A3, c3, rfl, hd, hb⟩
  have L3 := la L2 hb hd
  have Rr_3 := co Rr_2 hb
  clear hb hd
  obtain ⟨fr0, zr0, fr1, zr1, fr2, zr2, xr⟩ := ly3 Rr_3.out
  go_wp2
  have al : ∀ (V : World) (o : Obj) (i : Nat), w.heap.size < V.heap.size → (V.alloc o).cell? ⟨w.heap.size, i, none⟩ = V.cell? ⟨w.heap.size, i, none⟩ := fun V o i h => (below1 V o).cell (p := ⟨_, i, none⟩) h
  refine bodyPost_ret (v := .agg #[.bool (decide (K < 0)), .slice A3 (digs K.natAbs).length c3, .int .i64 F]) (by simp [results, Tryd.results14, go_sem, al, xr, fr0, fr1, fr2]) rfl ?_
  refine ⟨A3, c3, rfl, ?_, ?_⟩
  · exact ((fin3 L3.out Rr_3.out noint3 Gr).step (below1 _ _)).get (A := A3) (c := c3) (xs := digs K.natAbs) (by simp)
  · exact ((fin3 L3.out Rr_3.out noint3 Gr).step (below1 _ _)).1

theorem half_both (x : Int) : ∃ K F : Int, (digs K.natAbs).length ≤ 10000 ∧ (∀ w : World, T32 w → Calls Tryd.prog 13 #[.int .i64 x] w fun e w' => Yr K F w e w') ∧ (∀ w : World, Calls Tryd.prog 14 #[.int .i64 x] w fun e w' => Yr K F w e w') := by
  obtain ⟨K, F, q, hl, p, r⟩ := make_both (decide ((1 : Int) < 0)) (xs := digs (1 : Int).natAbs) x (Nat.le_trans (digs_small (n := (1 : Int).natAbs) (by decide)) (by omega))
  exact ⟨K, F, hl, fun w hT => half_t x 1 K F q w p hT rfl, fun w => r5half_t x 1 K F q w r rfl⟩
end Go.Proofs.YtaciohjobenipaaDoor
end

section
/-
  Both sides with one answer: Neg, Size, Cmp.
-/
namespace Go.Proofs.YtaciohjobenipaaDoor
open Go.RowKit
set_option linter.unusedSimpArgs false
set_option linter.unusedVariables false
theorem neg_both {s : Bool} {xs : List Nat} {x : Int} (hk : ok32 xs) (hl : xs.length ≤ 10000) : ∃ K F : Int, (digs K.natAbs).length ≤ 10000 ∧ (∀ (A : Option Addr) (c : Nat) (w : World), Dg w A c xs → Calls Tryd.prog 15 #[.agg #[.bool s, .slice A xs.length c, .int .i64 x]] w fun e w' => Yr K F w e w') ∧ (∀ (A : Option Addr) (c : Nat) (w : World), Dg w A c xs → Calls Tryd.prog 16 #[.agg #[.bool s, .slice A xs.length c, .int .i64 x]] w fun e w' => Yr K F w e w') := by
  cases hq : dyR s xs x
  · refine ⟨0, 0, d00, fun A c w h => ?_, fun A c w h => ?_⟩
    · refine (dneg_no A c s xs x w h (by omega) hq).mono ?_
      rintro e w' ⟨rfl, hb⟩; exact zero_yr hb
    · refine (r5neg_no A c s xs x w h (by omega) hq).mono ?_
      rintro e w' ⟨rfl, hb⟩; exact zero_yr hb
  · obtain ⟨m, rfl, rfl, r1⟩ := num_of hk hq
    exact ⟨-m, x, by rw [Int.natAbs_neg]; exact hl, fun A c w h => neg_yes A c m x w h (by omega) r1, fun A c w h => r5neg_t A c m x (-m) w h hl r1 rfl⟩

set_option maxHeartbeats 4000000 in
set_option maxRecDepth 100000 in
theorem size_rz (A : Option Addr) (c : Nat) (s : Bool) (xs : List Nat) (x : Int) (w : World) (h : Dg w A c xs) (hl : xs.length ≤ 9223372036854775807) (h0 : xs.length = 0):
    Calls Tryd.prog 17 #[.agg #[.bool s, .slice A xs.length c, .int .i64 x]] w fun e w' => e = .returned (.tuple #[.int .i64 0, .bool false]) ∧ Below w.heap.size w w' := by
  have lx := Lib.hid hl
  have HZ := Lib.hid (show ((xs.length : Int) == 0) = true by rw [h0]; rfl)
  have L0 := Lib.hid ((live_start w).add h)
  clear h hl h0
  go_enter Tryd.func17, Tryd.ntmps17
  go_wp2_with fail
  obtain ⟨v1, hW, hb, Rx_1⟩ := new1 w (.cells #[.bool s, .slice A xs.length c, .int .i64 x] 26)
  rw [← hW]
  have L1 := ls L0 hb
  have Gx := gl0 L0.out
  clear hW hb
  refine (isZero_any A xs.length c s x _ true HZ.out).mono ?_
  rintro e w2 ⟨rfl, hb⟩
  have L2 := ls L1 hb
  have Rx_2 := co Rx_1 hb
  clear hb 
  obtain ⟨fx0, zx0, fx1, zx1, fx2, zx2, xx⟩ := ly3 Rx_2.out
  go_wp2
  go_ret2
  exact ⟨rfl, L2.out.1⟩

set_option maxHeartbeats 4000000 in
set_option maxRecDepth 100000 in
theorem size_rw (A : Option Addr) (c : Nat) (s : Bool) (xs : List Nat) (x : Int) (w : World) (h : Dg w A c xs) (hl : xs.length ≤ 9223372036854775807) (h0 : xs.length ≠ 0) (hq : dyR s xs x = false):
    Calls Tryd.prog 17 #[.agg #[.bool s, .slice A xs.length c, .int .i64 x]] w fun e w' => e = .returned (.tuple #[.int .i64 0, .bool false]) ∧ Below w.heap.size w w' := by
  have lx := Lib.hid hl
  have HZ := Lib.hid (show ((xs.length : Int) == 0) = false by exact beq_eq_false_iff_ne.2 (by omega))
  have HQ := Lib.hid hq
  have L0 := Lib.hid ((live_start w).add h)
  clear h hl h0 hq
  go_enter Tryd.func17, Tryd.ntmps17
  go_wp2_with fail
  obtain ⟨v1, hW, hb, Rx_1⟩ := new1 w (.cells #[.bool s, .slice A xs.length c, .int .i64 x] 26)
  rw [← hW]
  have L1 := ls L0 hb
  have Gx := gl0 L0.out
  clear hW hb
  refine (isZero_any A xs.length c s x _ false HZ.out).mono ?_
  rintro e w2 ⟨rfl, hb⟩
  have L2 := ls L1 hb
  have Rx_2 := co Rx_1 hb
  clear hb 
  obtain ⟨fx0, zx0, fx1, zx1, fx2, zx2, xx⟩ := ly3 Rx_2.out
  go_wp2_with fail
  refine (dright_any A c s xs x _ (L2.out.get (A := A) (c := c) (xs := xs) (by simp)) false HQ.out lx.out).mono ?_
  rintro e w3 ⟨rfl, hb⟩
  have L3 := ls L2 hb
  clear fx0 zx0 fx1 zx1 fx2 zx2 xx
  have Rx_3 := co Rx_2 hb
  clear hb 
  obtain ⟨fx0, zx0, fx1, zx1, fx2, zx2, xx⟩ := ly3 Rx_3.out
  go_wp2
  go_ret2
  exact ⟨rfl, L3.out.1⟩

set_option maxHeartbeats 4000000 in
set_option maxRecDepth 100000 in
theorem r5size_w (A : Option Addr) (c : Nat) (s : Bool) (xs : List Nat) (x : Int) (w : World) (h : Dg w A c xs) (hl : xs.length ≤ 9223372036854775807) (hq : dyR s xs x = false):
    Calls Tryd.prog 18 #[.agg #[.bool s, .slice A xs.length c, .int .i64 x]] w fun e w' => e = .returned (.tuple #[.int .i64 0, .bool false]) ∧ Below w.heap.size w w' := by
  have lx := Lib.hid hl
  have HQ := Lib.hid hq
  have L0 := Lib.hid ((live_start w).add h)
  clear h hl hq
  go_enter Tryd.func18, Tryd.ntmps18
  go_wp2_with fail
  obtain ⟨v1, hW, hb, Rx_1⟩ := new1 w (.cells #[.bool s, .slice A xs.length c, .int .i64 x] 26)
  rw [← hW]
  have L1 := ls L0 hb
  have Gx := gl0 L0.out
  clear hW hb
  refine (r5right_any (L1.out.get (A := A) (c := c) (xs := xs) (by simp)) lx.out HQ.out).mono ?_
  rintro e w2 ⟨rfl, hb⟩
  have L2 := ls L1 hb
  have Rx_2 := co Rx_1 hb
  clear hb 
  obtain ⟨fx0, zx0, fx1, zx1, fx2, zx2, xx⟩ := ly3 Rx_2.out
  go_wp2
  go_ret2
  exact ⟨rfl, L2.out.1⟩

set_option maxHeartbeats 4000000 in
set_option maxRecDepth 100000 in
theorem r5size_z (A : Option Addr) (c : Nat) (m x : Int) (w : World) (h : Dg w A c (digs m.natAbs)) (hl : (digs m.natAbs).length ≤ 10000) (r1 : Rt m x) (m0 : m = 0):
    Calls Tryd.prog 18 #[.agg #[.bool (decide (m < 0)), .slice A (digs m.natAbs).length c, .int .i64 x]] w fun e w' => e = .returned (.tuple #[.int .i64 0, .bool false]) ∧ Below w.heap.size w w' := by
  have lx := Lib.hid hl
  have HR := Lib.hid r1
  have t1 : ((((digs m.natAbs).length : Nat) : Int) == 0) = true := by rw [m0, show digs (0 : Int).natAbs = [] from digs_zero]; rfl
  have L0 := Lib.hid ((live_start w).add h)
  clear h hl r1 m0
  go_enter Tryd.func18, Tryd.ntmps18
  go_wp2_with fail
  obtain ⟨v1, hW, hb, Rx_1⟩ := new1 w (.cells #[.bool (decide (m < 0)), .slice A (digs m.natAbs).length c, .int .i64 x] 26)
  rw [← hW]
  have L1 := ls L0 hb
  have Gx := gl0 L0.out
  clear hW hb
  refine (r5right_t (L1.out.get (A := A) (c := c) (xs := digs m.natAbs) (by simp)) lx.out HR.out).mono ?_
  rintro e w2 ⟨rfl, hb⟩
  have L2 := ls L1 hb
  have Rx_2 := co Rx_1 hb
  clear hb 
  obtain ⟨fx0, zx0, fx1, zx1, fx2, zx2, xx⟩ := ly3 Rx_2.out
  go_wp2
  go_ret2
  exact ⟨rfl, L2.out.1⟩

set_option maxHeartbeats 4000000 in
set_option maxRecDepth 100000 in
theorem r5size_y (A : Option Addr) (c : Nat) (m x k : Int) (w : World) (h : Dg w A c (digs m.natAbs)) (hl : (digs m.natAbs).length ≤ 10000) (r1 : Rt m x) (m0 : m ≠ 0) (hk : x + bl m = k):
    Calls Tryd.prog 18 #[.agg #[.bool (decide (m < 0)), .slice A (digs m.natAbs).length c, .int .i64 x]] w fun e w' => e = .returned (.tuple #[.int .i64 k, .bool true]) ∧ Below w.heap.size w w' := by
  have lx := Lib.hid hl
  have HR := Lib.hid r1
  have t1 : ((((digs m.natAbs).length : Nat) : Int) == 0) = false := beq_eq_false_iff_ne.2 (fun e => m0 (by have := digs_nil.1 (show (digs m.natAbs).length = 0 by omega); omega))
  have SB := Lib.hid (show -10000000 ≤ x ∧ x ≤ 10000000 by have := r1.2; omega)
  have HK := Lib.hid hk
  have L0 := Lib.hid ((live_start w).add h)
  clear h hl r1 m0 hk
  go_enter Tryd.func18, Tryd.ntmps18
  go_wp2_with fail
  obtain ⟨v1, hW, hb, Rx_1⟩ := new1 w (.cells #[.bool (decide (m < 0)), .slice A (digs m.natAbs).length c, .int .i64 x] 26)
  rw [← hW]
  have L1 := ls L0 hb
  have Gx := gl0 L0.out
  clear hW hb
  refine (r5right_t (L1.out.get (A := A) (c := c) (xs := digs m.natAbs) (by simp)) lx.out HR.out).mono ?_
  rintro e w2 ⟨rfl, hb⟩
  have L2 := ls L1 hb
  have Rx_2 := co Rx_1 hb
  clear hb 
  obtain ⟨fx0, zx0, fx1, zx1, fx2, zx2, xx⟩ := ly3 Rx_2.out
  go_wp2_with fail
  refine (r5size_any A c m x k _ (L2.out.get (A := A) (c := c) (xs := digs m.natAbs) (by simp)) (Nat.le_trans lx.out (by omega)) SB.out.1 SB.out.2 HK.out).mono ?_
  rintro e w3 ⟨rfl, hb⟩
  have L3 := ls L2 hb
  clear fx0 zx0 fx1 zx1 fx2 zx2 xx
  have Rx_3 := co Rx_2 hb
  clear hb 
  obtain ⟨fx0, zx0, fx1, zx1, fx2, zx2, xx⟩ := ly3 Rx_3.out
  go_wp2
  go_ret2
  exact ⟨rfl, L3.out.1⟩

theorem size_both {s : Bool} {xs : List Nat} {x : Int} (hk : ok32 xs) (hl : xs.length ≤ 10000) : ∃ (k : Int) (q : Bool), (∀ (A : Option Addr) (c : Nat) (w : World), Dg w A c xs → Calls Tryd.prog 17 #[.agg #[.bool s, .slice A xs.length c, .int .i64 x]] w fun e w' => e = .returned (.tuple #[.int .i64 k, .bool q]) ∧ Below w.heap.size w w') ∧ (∀ (A : Option Addr) (c : Nat) (w : World), Dg w A c xs → Calls Tryd.prog 18 #[.agg #[.bool s, .slice A xs.length c, .int .i64 x]] w fun e w' => e = .returned (.tuple #[.int .i64 k, .bool q]) ∧ Below w.heap.size w w') := by
  cases hq : dyR s xs x
  · refine ⟨0, false, fun A c w h => ?_, fun A c w h => r5size_w A c s xs x w h (by omega) hq⟩
    by_cases h0 : xs.length = 0
    · exact size_rz A c s xs x w h (by omega) h0
    · exact size_rw A c s xs x w h (by omega) h0 hq
  · obtain ⟨m, rfl, rfl, r1⟩ := num_of hk hq
    by_cases m0 : m = 0
    · exact ⟨0, false, fun A c w h => size_rz A c _ _ x w h (by omega) (by rw [m0, show digs (0 : Int).natAbs = [] from digs_zero]; rfl), fun A c w h => r5size_z A c m x w h hl r1 m0⟩
    · exact ⟨_, true, fun A c w h => size_yes A c m x w h hl r1 m0 rfl, fun A c w h => r5size_y A c m x _ w h hl r1 m0 rfl⟩

set_option maxHeartbeats 4000000 in
set_option maxRecDepth 100000 in
theorem r5cmp_no_ff (A B : Option Addr) (c d : Nat) (s r : Bool) (xs ys : List Nat) (x y : Int) (w : World) (h : Dg w A c xs) (h' : Dg w B d ys) (hl : xs.length ≤ 9223372036854775807) (hl' : ys.length ≤ 9223372036854775807) (hp : dyR s xs x = false) (hq : dyR r ys y = false):
    Calls Tryd.prog 20 #[.agg #[.bool s, .slice A xs.length c, .int .i64 x], .agg #[.bool r, .slice B ys.length d, .int .i64 y]] w fun e w' => e = .returned (.int .i64 0) ∧ Below w.heap.size w w' := by
  have lx := Lib.hid hl
  have ly := Lib.hid hl'
  have HP := Lib.hid hp
  have HQ := Lib.hid hq
  have L0 := Lib.hid (((live_start w).add h).add h')
  clear h h' hl hl' hp hq
  go_enter Tryd.func20, Tryd.ntmps20
  go_wp2_with fail
  obtain ⟨v1, hW, hb, Rx_1, Ry_1⟩ := new2 w (.cells #[.bool s, .slice A xs.length c, .int .i64 x] 26) (.cells #[.bool r, .slice B ys.length d, .int .i64 y] 26)
  rw [← hW]
  have L1 := ls L0 hb
  have Gx := gl0 L0.out
  have Gy := gl1 L0.out
  have Nxy : w.heap.size < w.heap.size + 1 := by omega
  clear hW hb
  refine (r5right_any (L1.out.get (A := A) (c := c) (xs := xs) (by simp)) lx.out HP.out).mono ?_
  rintro e w2 ⟨rfl, hb⟩
  have L2 := ls L1 hb
  have Rx_2 := co Rx_1 hb
  have Ry_2 := co Ry_1 hb
  clear hb 
  obtain ⟨fy0, zy0, fy1, zy1, fy2, zy2, xy⟩ := ly3 Ry_2.out
  go_wp2_with fail
  refine (r5right_any (L2.out.get (A := B) (c := d) (xs := ys) (by simp)) ly.out HQ.out).mono ?_
  rintro e w3 ⟨rfl, hb⟩
  have L3 := ls L2 hb
  clear fy0 zy0 fy1 zy1 fy2 zy2 xy
  have Rx_3 := co Rx_2 hb
  have Ry_3 := co Ry_2 hb
  clear hb 
  go_wp2
  go_ret
  exact ⟨rfl, L3.out.1⟩

set_option maxHeartbeats 4000000 in
set_option maxRecDepth 100000 in
theorem r5cmp_no_ft (A B : Option Addr) (c d : Nat) (s r : Bool) (xs ys : List Nat) (x y : Int) (w : World) (h : Dg w A c xs) (h' : Dg w B d ys) (hl : xs.length ≤ 9223372036854775807) (hl' : ys.length ≤ 9223372036854775807) (hp : dyR s xs x = false) (hq : dyR r ys y = true):
    Calls Tryd.prog 20 #[.agg #[.bool s, .slice A xs.length c, .int .i64 x], .agg #[.bool r, .slice B ys.length d, .int .i64 y]] w fun e w' => e = .returned (.int .i64 0) ∧ Below w.heap.size w w' := by
  have lx := Lib.hid hl
  have ly := Lib.hid hl'
  have HP := Lib.hid hp
  have HQ := Lib.hid hq
  have L0 := Lib.hid (((live_start w).add h).add h')
  clear h h' hl hl' hp hq
  go_enter Tryd.func20, Tryd.ntmps20
  go_wp2_with fail
  obtain ⟨v1, hW, hb, Rx_1, Ry_1⟩ := new2 w (.cells #[.bool s, .slice A xs.length c, .int .i64 x] 26) (.cells #[.bool r, .slice B ys.length d, .int .i64 y] 26)
  rw [← hW]
  have L1 := ls L0 hb
  have Gx := gl0 L0.out
  have Gy := gl1 L0.out
  have Nxy : w.heap.size < w.heap.size + 1 := by omega
  clear hW hb
  refine (r5right_any (L1.out.get (A := A) (c := c) (xs := xs) (by simp)) lx.out HP.out).mono ?_
  rintro e w2 ⟨rfl, hb⟩
  have L2 := ls L1 hb
  have Rx_2 := co Rx_1 hb
  have Ry_2 := co Ry_1 hb
  clear hb 
  obtain ⟨fy0, zy0, fy1, zy1, fy2, zy2, xy⟩ := ly3 Ry_2.out
  go_wp2_with fail
  refine (r5right_any (L2.out.get (A := B) (c := d) (xs := ys) (by simp)) ly.out HQ.out).mono ?_
  rintro e w3 ⟨rfl, hb⟩
  have L3 := ls L2 hb
  clear fy0 zy0 fy1 zy1 fy2 zy2 xy
  have Rx_3 := co Rx_2 hb
  have Ry_3 := co Ry_2 hb
  clear hb 
  go_wp2
  go_ret
  exact ⟨rfl, L3.out.1⟩

set_option maxHeartbeats 4000000 in
set_option maxRecDepth 100000 in
theorem r5cmp_no_tf (A B : Option Addr) (c d : Nat) (s r : Bool) (xs ys : List Nat) (x y : Int) (w : World) (h : Dg w A c xs) (h' : Dg w B d ys) (hl : xs.length ≤ 9223372036854775807) (hl' : ys.length ≤ 9223372036854775807) (hp : dyR s xs x = true) (hq : dyR r ys y = false):
    Calls Tryd.prog 20 #[.agg #[.bool s, .slice A xs.length c, .int .i64 x], .agg #[.bool r, .slice B ys.length d, .int .i64 y]] w fun e w' => e = .returned (.int .i64 0) ∧ Below w.heap.size w w' := by
  have lx := Lib.hid hl
  have ly := Lib.hid hl'
  have HP := Lib.hid hp
  have HQ := Lib.hid hq
  have L0 := Lib.hid (((live_start w).add h).add h')
  clear h h' hl hl' hp hq
  go_enter Tryd.func20, Tryd.ntmps20
  go_wp2_with fail
  obtain ⟨v1, hW, hb, Rx_1, Ry_1⟩ := new2 w (.cells #[.bool s, .slice A xs.length c, .int .i64 x] 26) (.cells #[.bool r, .slice B ys.length d, .int .i64 y] 26)
  rw [← hW]
  have L1 := ls L0 hb
  have Gx := gl0 L0.out
  have Gy := gl1 L0.out
  have Nxy : w.heap.size < w.heap.size + 1 := by omega
  clear hW hb
  refine (r5right_any (L1.out.get (A := A) (c := c) (xs := xs) (by simp)) lx.out HP.out).mono ?_
  rintro e w2 ⟨rfl, hb⟩
  have L2 := ls L1 hb
  have Rx_2 := co Rx_1 hb
  have Ry_2 := co Ry_1 hb
  clear hb 
  obtain ⟨fy0, zy0, fy1, zy1, fy2, zy2, xy⟩ := ly3 Ry_2.out
  go_wp2_with fail
  refine (r5right_any (L2.out.get (A := B) (c := d) (xs := ys) (by simp)) ly.out HQ.out).mono ?_
  rintro e w3 ⟨rfl, hb⟩
  have L3 := ls L2 hb
  clear fy0 zy0 fy1 zy1 fy2 zy2 xy
  have Rx_3 := co Rx_2 hb
  have Ry_3 := co Ry_2 hb
  clear hb 
  go_wp2
  go_ret
  exact ⟨rfl, L3.out.1⟩

theorem cmp_both {s r : Bool} {xs ys : List Nat} {x y : Int} (hk : ok32 xs) (hk' : ok32 ys) (hl : xs.length ≤ 10000) (hl' : ys.length ≤ 10000) : ∃ k : Int, (∀ (A : Option Addr) (c : Nat) (B : Option Addr) (d : Nat) (w : World), Dg w A c xs → Dg w B d ys → Calls Tryd.prog 19 #[.agg #[.bool s, .slice A xs.length c, .int .i64 x], .agg #[.bool r, .slice B ys.length d, .int .i64 y]] w fun e w' => e = .returned (.int .i64 k) ∧ Below w.heap.size w w') ∧ (∀ (A : Option Addr) (c : Nat) (B : Option Addr) (d : Nat) (w : World), Dg w A c xs → Dg w B d ys → Calls Tryd.prog 20 #[.agg #[.bool s, .slice A xs.length c, .int .i64 x], .agg #[.bool r, .slice B ys.length d, .int .i64 y]] w fun e w' => e = .returned (.int .i64 k) ∧ Below w.heap.size w w') := by
  cases hq : (dyR s xs x && dyR r ys y)
  · refine ⟨0, fun A c B d w h h' => dcmp_no h h' (by omega) (by omega) hq, fun A c B d w h h' => ?_⟩
    obtain ⟨p, hp⟩ : ∃ p, dyR s xs x = p := ⟨_, rfl⟩
    obtain ⟨q, hq2⟩ : ∃ p, dyR r ys y = p := ⟨_, rfl⟩
    rw [hp, hq2] at hq
    cases p <;> cases q
    · exact r5cmp_no_ff A B c d s r xs ys x y w h h' (by omega) (by omega) hp hq2
    · exact r5cmp_no_ft A B c d s r xs ys x y w h h' (by omega) (by omega) hp hq2
    · exact r5cmp_no_tf A B c d s r xs ys x y w h h' (by omega) (by omega) hp hq2
    · cases hq
  · rw [Bool.and_eq_true] at hq
    obtain ⟨m, rfl, rfl, r1⟩ := num_of hk hq.1
    obtain ⟨n, rfl, rfl, r2⟩ := num_of hk' hq.2
    exact ⟨_, fun A c B d w h h' => dcmp_any h h' (by omega) (by omega) r1 r2 rfl, fun A c B d w h h' => r5cmp_any h h' hl hl' r1 r2 rfl⟩
end Go.Proofs.YtaciohjobenipaaDoor
end

section
/-
  DyadMakes.
-/
namespace Go.Proofs.YtaciohjobenipaaDoor
open Go.RowKit
set_option linter.unusedSimpArgs false
set_option linter.unusedVariables false
set_option maxHeartbeats 8000000 in
set_option maxRecDepth 100000 in
theorem dyadMakes_any  (Ax : Option Addr) (cx : Nat) (sx : Bool) (xsx : List Nat) (ex : Int) (Ay : Option Addr) (cy : Nat) (sy : Bool) (xsy : List Nat) (ey : Int) (n : Int) (j : Int) (w : World)  (hx : Dg w Ax cx xsx) (lx : xsx.length ≤ 9223372036854775807) (ex0 : -9223372036854775808 ≤ ex) (ex1 : ex ≤ 9223372036854775807) (hy : Dg w Ay cy xsy) (ly : xsy.length ≤ 9223372036854775807) (ey0 : -9223372036854775808 ≤ ey) (ey1 : ey ≤ 9223372036854775807) (n0 : -9223372036854775808 ≤ n) (n1 : n ≤ 9223372036854775807) (j0 : -9223372036854775808 ≤ j) (j1 : j ≤ 9223372036854775807) (hT : T32 w):
    Calls Tryd.prog 3 #[.agg #[.bool sx, .slice Ax xsx.length cx, .int .i64 ex], .agg #[.bool sy, .slice Ay xsy.length cy, .int .i64 ey], .int .i64 n, .int .i64 j] w fun e w' => e = .returned (.bool true) ∧ Below w.heap.size w w' := by
  obtain ⟨tx, htx⟩ : ∃ t, xsx.take 20 = t := ⟨_, rfl⟩
  have hdx : Dg w Ax cx tx := by rw [← htx]; exact hx.take 20
  have okx := hdx.2.1
  have tlx : tx.length = min xsx.length 20 := by rw [← htx, List.length_take]; omega
  have TCx := Lib.hid hdx.1
  have TMx := Lib.hid (show min (xsx.length : Int) 20 = (tx.length : Int) by omega)
  have LTx := Lib.hid (show tx.length ≤ 10000 by omega)
  obtain ⟨ty, hty⟩ : ∃ t, xsy.take 20 = t := ⟨_, rfl⟩
  have hdy : Dg w Ay cy ty := by rw [← hty]; exact hy.take 20
  have oky := hdy.2.1
  have tly : ty.length = min xsy.length 20 := by rw [← hty, List.length_take]; omega
  have TCy := Lib.hid hdy.1
  have TMy := Lib.hid (show min (xsy.length : Int) 20 = (ty.length : Int) by omega)
  have LTy := Lib.hid (show ty.length ≤ 10000 by omega)
  obtain ⟨K0, F0, V0, ln0, pp0, qq0⟩ := make_both sx j (by omega : tx.length ≤ 9000)
  have DK0 := Lib.hid ln0
  have PP0 := Lib.hid pp0
  have QQ0 := Lib.hid qq0
  obtain ⟨K1, F1, ln1, pp1, qq1⟩ := from_both n n0 n1
  have DK1 := Lib.hid ln1
  have PP1 := Lib.hid pp1
  have QQ1 := Lib.hid qq1
  obtain ⟨K2, F2, ln2, pp2, qq2⟩ := half_both j
  have DK2 := Lib.hid ln2
  have PP2 := Lib.hid pp2
  have QQ2 := Lib.hid qq2
  obtain ⟨K3, F3, ln3, pp3, qq3⟩ := neg_both (s := sx) (x := ex) okx (by omega : tx.length ≤ 10000)
  have DK3 := Lib.hid ln3
  have PP3 := Lib.hid pp3
  have QQ3 := Lib.hid qq3
  obtain ⟨K4, V4, pp4, qq4⟩ := size_both (s := sx) (x := ex) okx (by omega : tx.length ≤ 10000)
  have PP4 := Lib.hid pp4
  have QQ4 := Lib.hid qq4
  obtain ⟨K5, pp5, qq5⟩ := cmp_both (s := sx) (x := ex) (r := sy) (y := ey) okx oky (by omega : tx.length ≤ 10000) (by omega : ty.length ≤ 10000)
  have PP5 := Lib.hid pp5
  have QQ5 := Lib.hid qq5
  obtain ⟨V6, h6⟩ : ∃ q, dyR sx xsx ex = q := ⟨_, rfl⟩
  have H6 := Lib.hid h6
  have LXW := Lib.hid lx
  have HT := Lib.hid hT
  have L0 := Lib.hid (((((live_start w).add hx).add hdx).add hy).add hdy)
  clear hx lx ex0 ex1 htx hdx okx tlx hy ly ey0 ey1 hty hdy oky tly hT pp0 qq0 pp1 qq1 pp2 qq2 pp3 qq3 pp4 qq4 pp5 qq5 ln0 ln1 ln2 ln3 h6 n0 n1 j0 j1
  go_enter Tryd.func3, Tryd.ntmps3
  go_wp2_with fail
  obtain ⟨v1, hW, hb, Rx_1, Ry_1⟩ := new2 w (.cells #[.bool sx, .slice Ax xsx.length cx, .int .i64 ex] 26) (.cells #[.bool sy, .slice Ay xsy.length cy, .int .i64 ey] 26)
  rw [← hW]
  have L1 := ls L0 hb
  have Gx := gl0 L0.out
  have Gy := gl1 L0.out
  have Nxy : w.heap.size < w.heap.size + 1 := by omega
  clear hW hb
  refine (dexamples_any _ (t32_live HT.out L1.out)).mono ?_
  rintro e w2 ⟨rfl, hb⟩
  have L2 := ls L1 hb
  have Rx_2 := co Rx_1 hb
  have Ry_2 := co Ry_1 hb
  clear hb 
  obtain ⟨fx0, zx0, fx1, zx1, fx2, zx2, xx⟩ := ly3 Rx_2.out
  go_wp2_with fail
  refine (cut_l (ts := tx) (N := 20) TMx.out TCx.out).mono ?_
  rintro e w3 ⟨rfl, hb⟩
  have L3 := ls L2 hb
  clear fx0 zx0 fx1 zx1 fx2 zx2 xx
  have Rx_3 := co Rx_2 hb
  have Ry_3 := co Ry_2 hb
  clear hb 
  obtain ⟨fy0, zy0, fy1, zy1, fy2, zy2, xy⟩ := ly3 Ry_3.out
  go_wp2_with fail
  obtain ⟨w4, hW, hb, Ra_4⟩ := new1 w3 (.cells #[.bool sx, .slice Ax tx.length cx, .int .i64 ex] 26)
  rw [← hW]
  have L4 := ls L3 hb
  have Rx_4 := co Rx_3 hb
  have Ry_4 := co Ry_3 hb
  have Ga := gl0 L3.out
  have Nxa := nl0 Rx_3.out
  have Nya := nl0 Ry_3.out
  clear hW hb
  clear fy0 zy0 fy1 zy1 fy2 zy2 xy
  refine (cut_l (ts := ty) (N := 20) TMy.out TCy.out).mono ?_
  rintro e w5 ⟨rfl, hb⟩
  have L5 := ls L4 hb
  have Rx_5 := co Rx_4 hb
  have Ry_5 := co Ry_4 hb
  have Ra_5 := co Ra_4 hb
  clear hb 
  obtain ⟨fa0, za0, fa1, za1, fa2, za2, xa⟩ := ly3 Ra_5.out
  go_wp2_with fail
  obtain ⟨w6, hW, hb, Rb_6⟩ := new1 w5 (.cells #[.bool sy, .slice Ay ty.length cy, .int .i64 ey] 26)
  rw [← hW]
  have L6 := ls L5 hb
  have Rx_6 := co Rx_5 hb
  have Ry_6 := co Ry_5 hb
  have Ra_6 := co Ra_5 hb
  have Gb := gl0 L5.out
  have Nxb := nl0 Rx_5.out
  have Nyb := nl0 Ry_5.out
  have Nab := nl0 Ra_5.out
  clear hW hb
  clear fa0 za0 fa1 za1 fa2 za2 xa
  refine (PP0.out _ _ _ (L6.out.get (A := Ax) (c := cx) (xs := tx) (by simp)) (t32_live HT.out L6.out)).mono ?_
  rintro e w7 ⟨A7, c7, rfl, hd, hb⟩
  have L7 := la L6 hb hd
  have Rx_7 := co Rx_6 hb
  have Ry_7 := co Ry_6 hb
  have Ra_7 := co Ra_6 hb
  have Rb_7 := co Rb_6 hb
  clear hb hd
  obtain ⟨fa0, za0, fa1, za1, fa2, za2, xa⟩ := ly3 Ra_7.out
  obtain ⟨fb0, zb0, fb1, zb1, fb2, zb2, xb⟩ := ly3 Rb_7.out
  go_wp2_with fail
  obtain ⟨w8, hW, hb, Rp0_8⟩ := new1 w7 (.cells #[.bool (decide (K0 < 0)), .slice A7 (digs K0.natAbs).length c7, .int .i64 F0] 26)
  rw [← hW]
  have L8 := ls L7 hb
  have Rx_8 := co Rx_7 hb
  have Ry_8 := co Ry_7 hb
  have Ra_8 := co Ra_7 hb
  have Rb_8 := co Rb_7 hb
  have Gp0 := gl0 L7.out
  have Nxp0 := nl0 Rx_7.out
  have Nyp0 := nl0 Ry_7.out
  have Nap0 := nl0 Ra_7.out
  have Nbp0 := nl0 Rb_7.out
  clear hW hb
  clear fa0 za0 fa1 za1 fa2 za2 xa fb0 zb0 fb1 zb1 fb2 zb2 xb
  refine (QQ0.out _ _ _ (L8.out.get (A := Ax) (c := cx) (xs := tx) (by simp))).mono ?_
  rintro e w9 ⟨A9, c9, rfl, hd, hb⟩
  have L9 := la L8 hb hd
  have Rx_9 := co Rx_8 hb
  have Ry_9 := co Ry_8 hb
  have Ra_9 := co Ra_8 hb
  have Rb_9 := co Rb_8 hb
  have Rp0_9 := co Rp0_8 hb
  clear hb hd
  obtain ⟨fp00, zp00, fp01, zp01, fp02, zp02, xp0⟩ := ly3 Rp0_9.out
  go_wp2_with fail
  obtain ⟨w10, hW, hb, Rr0_10⟩ := new1 w9 (.cells #[.bool (decide (K0 < 0)), .slice A9 (digs K0.natAbs).length c9, .int .i64 F0] 26)
  rw [← hW]
  have L10 := ls L9 hb
  have Rx_10 := co Rx_9 hb
  have Ry_10 := co Ry_9 hb
  have Ra_10 := co Ra_9 hb
  have Rb_10 := co Rb_9 hb
  have Rp0_10 := co Rp0_9 hb
  have Gr0 := gl0 L9.out
  have Nxr0 := nl0 Rx_9.out
  have Nyr0 := nl0 Ry_9.out
  have Nar0 := nl0 Ra_9.out
  have Nbr0 := nl0 Rb_9.out
  have Np0r0 := nl0 Rp0_9.out
  clear hW hb
  clear fp00 zp00 fp01 zp01 fp02 zp02 xp0
  refine (dsame_d (m := K0) (n := K0) (x := F0) (y := F0) (q := true) (L10.out.get (A := A7) (c := c7) (xs := digs K0.natAbs) (by simp)) (L10.out.get (A := A9) (c := c9) (xs := digs K0.natAbs) (by simp)) DK0.out (by simp)).mono ?_
  rintro e w11 ⟨rfl, hb⟩
  have L11 := ls L10 hb
  have Rx_11 := co Rx_10 hb
  have Ry_11 := co Ry_10 hb
  have Ra_11 := co Ra_10 hb
  have Rb_11 := co Rb_10 hb
  have Rp0_11 := co Rp0_10 hb
  have Rr0_11 := co Rr0_10 hb
  clear hb 
  go_wp2_with fail
  refine (PP1.out _ (t32_live HT.out L11.out)).mono ?_
  rintro e w12 ⟨A12, c12, rfl, hd, hb⟩
  have L12 := la L11 hb hd
  have Rx_12 := co Rx_11 hb
  have Ry_12 := co Ry_11 hb
  have Ra_12 := co Ra_11 hb
  have Rb_12 := co Rb_11 hb
  have Rp0_12 := co Rp0_11 hb
  have Rr0_12 := co Rr0_11 hb
  clear hb hd
  go_wp2_with fail
  refine (QQ1.out _).mono ?_
  rintro e w13 ⟨A13, c13, rfl, hd, hb⟩
  have L13 := la L12 hb hd
  have Rx_13 := co Rx_12 hb
  have Ry_13 := co Ry_12 hb
  have Ra_13 := co Ra_12 hb
  have Rb_13 := co Rb_12 hb
  have Rp0_13 := co Rp0_12 hb
  have Rr0_13 := co Rr0_12 hb
  clear hb hd
  go_wp2_with fail
  refine (dsame_d (m := K1) (n := K1) (x := F1) (y := F1) (q := true) (L13.out.get (A := A12) (c := c12) (xs := digs K1.natAbs) (by simp)) (L13.out.get (A := A13) (c := c13) (xs := digs K1.natAbs) (by simp)) DK1.out (by simp)).mono ?_
  rintro e w14 ⟨rfl, hb⟩
  have L14 := ls L13 hb
  have Rx_14 := co Rx_13 hb
  have Ry_14 := co Ry_13 hb
  have Ra_14 := co Ra_13 hb
  have Rb_14 := co Rb_13 hb
  have Rp0_14 := co Rp0_13 hb
  have Rr0_14 := co Rr0_13 hb
  clear hb 
  go_wp2_with fail
  refine (PP2.out _ (t32_live HT.out L14.out)).mono ?_
  rintro e w15 ⟨A15, c15, rfl, hd, hb⟩
  have L15 := la L14 hb hd
  have Rx_15 := co Rx_14 hb
  have Ry_15 := co Ry_14 hb
  have Ra_15 := co Ra_14 hb
  have Rb_15 := co Rb_14 hb
  have Rp0_15 := co Rp0_14 hb
  have Rr0_15 := co Rr0_14 hb
  clear hb hd
  go_wp2_with fail
  refine (QQ2.out _).mono ?_
  rintro e w16 ⟨A16, c16, rfl, hd, hb⟩
  have L16 := la L15 hb hd
  have Rx_16 := co Rx_15 hb
  have Ry_16 := co Ry_15 hb
  have Ra_16 := co Ra_15 hb
  have Rb_16 := co Rb_15 hb
  have Rp0_16 := co Rp0_15 hb
  have Rr0_16 := co Rr0_15 hb
  clear hb hd
  go_wp2_with fail
  refine (dsame_d (m := K2) (n := K2) (x := F2) (y := F2) (q := true) (L16.out.get (A := A15) (c := c15) (xs := digs K2.natAbs) (by simp)) (L16.out.get (A := A16) (c := c16) (xs := digs K2.natAbs) (by simp)) DK2.out (by simp)).mono ?_
  rintro e w17 ⟨rfl, hb⟩
  have L17 := ls L16 hb
  have Rx_17 := co Rx_16 hb
  have Ry_17 := co Ry_16 hb
  have Ra_17 := co Ra_16 hb
  have Rb_17 := co Rb_16 hb
  have Rp0_17 := co Rp0_16 hb
  have Rr0_17 := co Rr0_16 hb
  clear hb 
  go_wp2_with fail
  obtain ⟨fa0, za0, fa1, za1, fa2, za2, xa⟩ := ly3 Ra_17.out
  have KD := Lib.hid (bd0 w17)
  have LD := ls L17 KD.out
  go_region_held3 (fun w' => ∀ b o, b < w17.heap.size → w'.cell? ⟨b, o, none⟩ = w17.cell? ⟨b, o, none⟩)
    (first | with_reducible exact (bcell KD.out).1 | with_reducible exact (bcell K19.out).1 | with_reducible exact (bcell K20.out).1 | with_reducible exact (bcell K21.out).1)
    (first
      | (go_at_call 15; (with_reducible refine (PP3.out _ _ _ (LD.out.get (A := Ax) (c := cx) (xs := tx) (by simp))).mono ?_); rintro e w19 ⟨A19, c19, rfl, hd, hb⟩; (have K19 := bt KD hb); (have L19 := la LD hb hd); clear hb hd)
      | (go_at_call 16; (with_reducible refine (QQ3.out _ _ _ (L19.out.get (A := Ax) (c := cx) (xs := tx) (by simp))).mono ?_); rintro e w20 ⟨A20, c20, rfl, hd, hb⟩; (have K20 := bt K19 hb); (have L20 := la L19 hb hd); clear hb hd)
      | (go_at_call 10; (with_reducible refine (dsame_d (m := K3) (n := K3) (x := F3) (y := F3) (q := true) (L20.out.get (A := A19) (c := c19) (xs := digs K3.natAbs) (by simp)) (L20.out.get (A := A20) (c := c20) (xs := digs K3.natAbs) (by simp)) DK3.out (by simp)).mono ?_); rintro e w21 ⟨rfl, hb⟩; (have K21 := bt K20 hb); (have L21 := Lib.hid (L20.out.step hb)); clear hb ))
  rename_i hHeld
  clear hHeld
  clear fa0 za0 fa1 za1 fa2 za2 xa
  have Rx_21 := co Rx_17 K21.out
  have Ry_21 := co Ry_17 K21.out
  have Ra_21 := co Ra_17 K21.out
  have Rb_21 := co Rb_17 K21.out
  have Rp0_21 := co Rp0_17 K21.out
  have Rr0_21 := co Rr0_17 K21.out
  clear KD LD
  obtain ⟨fa0, za0, fa1, za1, fa2, za2, xa⟩ := ly3 Ra_21.out
  go_wp2_with fail
  refine (PP4.out _ _ _ (L21.out.get (A := Ax) (c := cx) (xs := tx) (by simp))).mono ?_
  rintro e w22 ⟨rfl, hb⟩
  have L22 := ls L21 hb
  clear fa0 za0 fa1 za1 fa2 za2 xa
  have Rx_22 := co Rx_21 hb
  have Ry_22 := co Ry_21 hb
  have Ra_22 := co Ra_21 hb
  have Rb_22 := co Rb_21 hb
  have Rp0_22 := co Rp0_21 hb
  have Rr0_22 := co Rr0_21 hb
  clear hb 
  obtain ⟨fa0, za0, fa1, za1, fa2, za2, xa⟩ := ly3 Ra_22.out
  go_wp2_with fail
  refine (QQ4.out _ _ _ (L22.out.get (A := Ax) (c := cx) (xs := tx) (by simp))).mono ?_
  rintro e w23 ⟨rfl, hb⟩
  have L23 := ls L22 hb
  clear fa0 za0 fa1 za1 fa2 za2 xa
  have Rx_23 := co Rx_22 hb
  have Ry_23 := co Ry_22 hb
  have Ra_23 := co Ra_22 hb
  have Rb_23 := co Rb_22 hb
  have Rp0_23 := co Rp0_22 hb
  have Rr0_23 := co Rr0_22 hb
  clear hb 
  go_wp2_with fail
  refine wp_operands (W := w23) rfl 44 [73, 74, 75, 76, 77, 78, 79, 80, 81, 82, 83, 84, 85, 86, 87, 88, 89, 90, 91, 92, 93, 94, 95, 96, 97, 98, 99, 100, 101, 102, 103, 104, 105, 106, 107, 108, 109, 110, 111, 112, 113, 114, 115, 116] (fun i u ww => match i with | 0 => u = .bool true | 1 => u = .bool true | 2 => u = .bool true | 3 => u = .bool true | 4 => u = .bool true | 5 => u = .bool V0 | 6 => u = .bool V0 | 7 => u = .bool true | 8 => u = .bool true | 9 => u = .bool true | 10 => u = .bool true | 11 => u = .bool true | 12 => u = .bool true | 13 => u = .bool true | 14 => u = .bool true | 15 => u = .bool true | 16 => u = .bool true | 17 => u = .bool true | 18 => u = .bool true | 19 => u = .int .i64 K4 | 20 => u = .int .i64 K4 | 21 => u = .bool true | 22 => u = .bool true | 23 => u = .bool true | 24 => u = .bool V4 | 25 => u = .bool V4 | 26 => u = .bool true | 27 => u = .bool true | 28 => u = .bool true | 29 => u = .agg #[.bool sx, .slice Ax tx.length cx, .int .i64 ex] | 30 => u = .agg #[.bool sy, .slice Ay ty.length cy, .int .i64 ey] | 31 => u = .int .i64 K5 | 32 => u = .agg #[.bool sx, .slice Ax tx.length cx, .int .i64 ex] | 33 => u = .agg #[.bool sy, .slice Ay ty.length cy, .int .i64 ey] | 34 => u = .int .i64 K5 | 35 => u = .bool true | 36 => u = .bool true | 37 => u = .bool true | 38 => u = .agg #[.bool sx, .slice Ax xsx.length cx, .int .i64 ex] | 39 => u = .bool V6 | 40 => u = .agg #[.bool sx, .slice Ax xsx.length cx, .int .i64 ex] | 41 => u = .bool V6 | 42 => u = .bool true | 43 => u = .bool true | _ => True) (fun _ => false)
    (by decide) (by kernel_rfl) (by kernel_rfl) (by kernel_rfl) (by decide) (by kernel_rfl) ?_ (fun _ _ _ h => by cases h) ?_ ?_
  · intro i u y y2 hi h hb
    have hi' : i = 0 ∨ i = 1 ∨ i = 2 ∨ i = 3 ∨ i = 4 ∨ i = 5 ∨ i = 6 ∨ i = 7 ∨ i = 8 ∨ i = 9 ∨ i = 10 ∨ i = 11 ∨ i = 12 ∨ i = 13 ∨ i = 14 ∨ i = 15 ∨ i = 16 ∨ i = 17 ∨ i = 18 ∨ i = 19 ∨ i = 20 ∨ i = 21 ∨ i = 22 ∨ i = 23 ∨ i = 24 ∨ i = 25 ∨ i = 26 ∨ i = 27 ∨ i = 28 ∨ i = 29 ∨ i = 30 ∨ i = 31 ∨ i = 32 ∨ i = 33 ∨ i = 34 ∨ i = 35 ∨ i = 36 ∨ i = 37 ∨ i = 38 ∨ i = 39 ∨ i = 40 ∨ i = 41 ∨ i = 42 ∨ i = 43 := by omega
    rcases hi' with rfl | rfl | rfl | rfl | rfl | rfl | rfl | rfl | rfl | rfl | rfl | rfl | rfl | rfl | rfl | rfl | rfl | rfl | rfl | rfl | rfl | rfl | rfl | rfl | rfl | rfl | rfl | rfl | rfl | rfl | rfl | rfl | rfl | rfl | rfl | rfl | rfl | rfl | rfl | rfl | rfl | rfl | rfl | rfl
    · exact h
    · exact h
    · exact h
    · exact h
    · exact h
    · exact h
    · exact h
    · exact h
    · exact h
    · exact h
    · exact h
    · exact h
    · exact h
    · exact h
    · exact h
    · exact h
    · exact h
    · exact h
    · exact h
    · exact h
    · exact h
    · exact h
    · exact h
    · exact h
    · exact h
    · exact h
    · exact h
    · exact h
    · exact h
    · exact h
    · exact h
    · exact h
    · exact h
    · exact h
    · exact h
    · exact h
    · exact h
    · exact h
    · exact h
    · exact h
    · exact h
    · exact h
    · exact h
    · exact h
  · intro i a x K hi hF hb hw hK
    have hi' : i = 0 ∨ i = 1 ∨ i = 2 ∨ i = 3 ∨ i = 4 ∨ i = 5 ∨ i = 6 ∨ i = 7 ∨ i = 8 ∨ i = 9 ∨ i = 10 ∨ i = 11 ∨ i = 12 ∨ i = 13 ∨ i = 14 ∨ i = 15 ∨ i = 16 ∨ i = 17 ∨ i = 18 ∨ i = 19 ∨ i = 20 ∨ i = 21 ∨ i = 22 ∨ i = 23 ∨ i = 24 ∨ i = 25 ∨ i = 26 ∨ i = 27 ∨ i = 28 ∨ i = 29 ∨ i = 30 ∨ i = 31 ∨ i = 32 ∨ i = 33 ∨ i = 34 ∨ i = 35 ∨ i = 36 ∨ i = 37 ∨ i = 38 ∨ i = 39 ∨ i = 40 ∨ i = 41 ∨ i = 42 ∨ i = 43 := by omega
    rcases hi' with rfl | rfl | rfl | rfl | rfl | rfl | rfl | rfl | rfl | rfl | rfl | rfl | rfl | rfl | rfl | rfl | rfl | rfl | rfl | rfl | rfl | rfl | rfl | rfl | rfl | rfl | rfl | rfl | rfl | rfl | rfl | rfl | rfl | rfl | rfl | rfl | rfl | rfl | rfl | rfl | rfl | rfl | rfl | rfl
    · simp only [wpOp, List.getElem?_toArray, List.getElem?_cons_zero, Region.wanted, if_true]
      refine Or.inl ?_
      have e0 : a.eval (.tmp 9) = .bool true := hF.2.2 9 (by decide)
      clear hw hF
      simp only [Oper.wp, execOp]
      rw [e0]
      go_simp
      exact hK _ x (by first | rfl | simp) (Below.refl _ _) (fun h => by cases h)
    · simp only [wpOp, List.getElem?_toArray, List.getElem?_cons_succ, List.getElem?_cons_zero, Region.wanted, if_true]
      refine Or.inl ?_
      have e0 : a.tmps.getD 73 undef = .bool true := hw 0 (by kernel_rfl)
      clear hw hF
      simp only [Oper.wp, execOp]
      go_simp
      exact hK _ x (by first | rfl | simp) (Below.refl _ _) (fun h => by cases h)
    · simp only [wpOp, List.getElem?_toArray, List.getElem?_cons_succ, List.getElem?_cons_zero]
      have eg : a.tmps.getD 74 undef = .bool true := hw 1 (by kernel_rfl)
      refine ite_yes (wanted_yes rfl (yielded_of (t := 74) (by kernel_rfl) eg)) ?_
      clear eg
      refine Or.inl ?_
      have e0 : a.eval (.tmp 16) = .bool true := hF.2.2 16 (by decide)
      clear hw hF
      simp only [Oper.wp, execOp]
      rw [e0]
      go_simp
      exact hK _ x (by first | rfl | simp) (Below.refl _ _) (fun h => by cases h)
    · simp only [wpOp, List.getElem?_toArray, List.getElem?_cons_succ, List.getElem?_cons_zero, Region.wanted, if_true]
      refine Or.inl ?_
      have e0 : a.tmps.getD 74 undef = .bool true := hw 1 (by kernel_rfl)
      have e1 : a.tmps.getD 75 undef = .bool true := hw 2 (by kernel_rfl)
      clear hw hF
      have s0 : (V0 == V0) = true := by simp
      have s4 : (V4 == V4) = true := by simp
      have s5 : (K5 == K5) = true := by simp
      have s7 : (K4 == K4) = true := by simp
      have s6 : (V6 == V6) = true := by simp
      simp only [Oper.wp, execOp]
      go_simp
      exact hK _ x (by first | rfl | simp) (Below.refl _ _) (fun h => by cases h)
    · simp only [wpOp, List.getElem?_toArray, List.getElem?_cons_succ, List.getElem?_cons_zero, Region.wanted, if_true]
      refine Or.inl ?_
      have e0 : a.tmps.getD 76 undef = .bool true := hw 3 (by kernel_rfl)
      clear hw hF
      simp only [Oper.wp, execOp]
      go_simp
      exact hK _ x (by first | rfl | simp) (Below.refl _ _) (fun h => by cases h)
    · simp only [wpOp, List.getElem?_toArray, List.getElem?_cons_succ, List.getElem?_cons_zero]
      have eg : a.tmps.getD 77 undef = .bool true := hw 4 (by kernel_rfl)
      refine ite_yes (wanted_yes rfl (yielded_of (t := 77) (by kernel_rfl) eg)) ?_
      clear eg
      refine Or.inl ?_
      have e0 : a.eval (.tmp 13) = .bool V0 := hF.2.2 13 (by decide)
      clear hw hF
      simp only [Oper.wp, execOp]
      rw [e0]
      go_simp
      exact hK _ x (by first | rfl | simp) (Below.refl _ _) (fun h => by cases h)
    · simp only [wpOp, List.getElem?_toArray, List.getElem?_cons_succ, List.getElem?_cons_zero]
      have eg : a.tmps.getD 77 undef = .bool true := hw 4 (by kernel_rfl)
      refine ite_yes (wanted_yes rfl (yielded_of (t := 77) (by kernel_rfl) eg)) ?_
      clear eg
      refine Or.inl ?_
      have e0 : a.eval (.tmp 15) = .bool V0 := hF.2.2 15 (by decide)
      clear hw hF
      simp only [Oper.wp, execOp]
      rw [e0]
      go_simp
      exact hK _ x (by first | rfl | simp) (Below.refl _ _) (fun h => by cases h)
    · simp only [wpOp, List.getElem?_toArray, List.getElem?_cons_succ, List.getElem?_cons_zero]
      have eg : a.tmps.getD 77 undef = .bool true := hw 4 (by kernel_rfl)
      refine ite_yes (wanted_yes rfl (yielded_of (t := 77) (by kernel_rfl) eg)) ?_
      clear eg
      refine Or.inl ?_
      have e0 : a.tmps.getD 78 undef = .bool V0 := hw 5 (by kernel_rfl)
      have e1 : a.tmps.getD 79 undef = .bool V0 := hw 6 (by kernel_rfl)
      clear hw hF
      have s0 : (V0 == V0) = true := by simp
      have s4 : (V4 == V4) = true := by simp
      have s5 : (K5 == K5) = true := by simp
      have s7 : (K4 == K4) = true := by simp
      have s6 : (V6 == V6) = true := by simp
      simp only [Oper.wp, execOp]
      go_simp
      exact hK _ x (by first | rfl | simp) (Below.refl _ _) (fun h => by cases h)
    · simp only [wpOp, List.getElem?_toArray, List.getElem?_cons_succ, List.getElem?_cons_zero, Region.wanted, if_true]
      refine Or.inl ?_
      have e0 : a.tmps.getD 77 undef = .bool true := hw 4 (by kernel_rfl)
      have e1 : a.tmps.getD 80 undef = .bool true := hw 7 (by kernel_rfl)
      clear hw hF
      have s0 : (V0 == V0) = true := by simp
      have s4 : (V4 == V4) = true := by simp
      have s5 : (K5 == K5) = true := by simp
      have s7 : (K4 == K4) = true := by simp
      have s6 : (V6 == V6) = true := by simp
      simp only [Oper.wp, execOp]
      go_simp
      exact hK _ x (by first | rfl | simp) (Below.refl _ _) (fun h => by cases h)
    · simp only [wpOp, List.getElem?_toArray, List.getElem?_cons_succ, List.getElem?_cons_zero, Region.wanted, if_true]
      refine Or.inl ?_
      have e0 : a.tmps.getD 81 undef = .bool true := hw 8 (by kernel_rfl)
      clear hw hF
      simp only [Oper.wp, execOp]
      go_simp
      exact hK _ x (by first | rfl | simp) (Below.refl _ _) (fun h => by cases h)
    · simp only [wpOp, List.getElem?_toArray, List.getElem?_cons_succ, List.getElem?_cons_zero]
      have eg : a.tmps.getD 82 undef = .bool true := hw 9 (by kernel_rfl)
      refine ite_yes (wanted_yes rfl (yielded_of (t := 82) (by kernel_rfl) eg)) ?_
      clear eg
      refine Or.inl ?_
      have e0 : a.eval (.tmp 17) = .bool true := hF.2.2 17 (by decide)
      clear hw hF
      simp only [Oper.wp, execOp]
      rw [e0]
      go_simp
      exact hK _ x (by first | rfl | simp) (Below.refl _ _) (fun h => by cases h)
    · simp only [wpOp, List.getElem?_toArray, List.getElem?_cons_succ, List.getElem?_cons_zero, Region.wanted, if_true]
      refine Or.inl ?_
      have e0 : a.tmps.getD 82 undef = .bool true := hw 9 (by kernel_rfl)
      have e1 : a.tmps.getD 83 undef = .bool true := hw 10 (by kernel_rfl)
      clear hw hF
      have s0 : (V0 == V0) = true := by simp
      have s4 : (V4 == V4) = true := by simp
      have s5 : (K5 == K5) = true := by simp
      have s7 : (K4 == K4) = true := by simp
      have s6 : (V6 == V6) = true := by simp
      simp only [Oper.wp, execOp]
      go_simp
      exact hK _ x (by first | rfl | simp) (Below.refl _ _) (fun h => by cases h)
    · simp only [wpOp, List.getElem?_toArray, List.getElem?_cons_succ, List.getElem?_cons_zero, Region.wanted, if_true]
      refine Or.inl ?_
      have e0 : a.tmps.getD 84 undef = .bool true := hw 11 (by kernel_rfl)
      clear hw hF
      simp only [Oper.wp, execOp]
      go_simp
      exact hK _ x (by first | rfl | simp) (Below.refl _ _) (fun h => by cases h)
    · simp only [wpOp, List.getElem?_toArray, List.getElem?_cons_succ, List.getElem?_cons_zero]
      have eg : a.tmps.getD 85 undef = .bool true := hw 12 (by kernel_rfl)
      refine ite_yes (wanted_yes rfl (yielded_of (t := 85) (by kernel_rfl) eg)) ?_
      clear eg
      refine Or.inl ?_
      have e0 : a.eval (.tmp 18) = .bool true := hF.2.2 18 (by decide)
      clear hw hF
      simp only [Oper.wp, execOp]
      rw [e0]
      go_simp
      exact hK _ x (by first | rfl | simp) (Below.refl _ _) (fun h => by cases h)
    · simp only [wpOp, List.getElem?_toArray, List.getElem?_cons_succ, List.getElem?_cons_zero, Region.wanted, if_true]
      refine Or.inl ?_
      have e0 : a.tmps.getD 85 undef = .bool true := hw 12 (by kernel_rfl)
      have e1 : a.tmps.getD 86 undef = .bool true := hw 13 (by kernel_rfl)
      clear hw hF
      have s0 : (V0 == V0) = true := by simp
      have s4 : (V4 == V4) = true := by simp
      have s5 : (K5 == K5) = true := by simp
      have s7 : (K4 == K4) = true := by simp
      have s6 : (V6 == V6) = true := by simp
      simp only [Oper.wp, execOp]
      go_simp
      exact hK _ x (by first | rfl | simp) (Below.refl _ _) (fun h => by cases h)
    · simp only [wpOp, List.getElem?_toArray, List.getElem?_cons_succ, List.getElem?_cons_zero, Region.wanted, if_true]
      refine Or.inl ?_
      have e0 : a.tmps.getD 87 undef = .bool true := hw 14 (by kernel_rfl)
      clear hw hF
      simp only [Oper.wp, execOp]
      go_simp
      exact hK _ x (by first | rfl | simp) (Below.refl _ _) (fun h => by cases h)
    · simp only [wpOp, List.getElem?_toArray, List.getElem?_cons_succ, List.getElem?_cons_zero]
      have eg : a.tmps.getD 88 undef = .bool true := hw 15 (by kernel_rfl)
      refine ite_yes (wanted_yes rfl (yielded_of (t := 88) (by kernel_rfl) eg)) ?_
      clear eg
      refine Or.inl ?_
      have e0 : a.eval (.tmp 19) = .bool true := hF.2.2 19 (by decide)
      clear hw hF
      simp only [Oper.wp, execOp]
      rw [e0]
      go_simp
      exact hK _ x (by first | rfl | simp) (Below.refl _ _) (fun h => by cases h)
    · simp only [wpOp, List.getElem?_toArray, List.getElem?_cons_succ, List.getElem?_cons_zero, Region.wanted, if_true]
      refine Or.inl ?_
      have e0 : a.tmps.getD 88 undef = .bool true := hw 15 (by kernel_rfl)
      have e1 : a.tmps.getD 89 undef = .bool true := hw 16 (by kernel_rfl)
      clear hw hF
      have s0 : (V0 == V0) = true := by simp
      have s4 : (V4 == V4) = true := by simp
      have s5 : (K5 == K5) = true := by simp
      have s7 : (K4 == K4) = true := by simp
      have s6 : (V6 == V6) = true := by simp
      simp only [Oper.wp, execOp]
      go_simp
      exact hK _ x (by first | rfl | simp) (Below.refl _ _) (fun h => by cases h)
    · simp only [wpOp, List.getElem?_toArray, List.getElem?_cons_succ, List.getElem?_cons_zero, Region.wanted, if_true]
      refine Or.inl ?_
      have e0 : a.tmps.getD 90 undef = .bool true := hw 17 (by kernel_rfl)
      clear hw hF
      simp only [Oper.wp, execOp]
      go_simp
      exact hK _ x (by first | rfl | simp) (Below.refl _ _) (fun h => by cases h)
    · simp only [wpOp, List.getElem?_toArray, List.getElem?_cons_succ, List.getElem?_cons_zero]
      have eg : a.tmps.getD 91 undef = .bool true := hw 18 (by kernel_rfl)
      refine ite_yes (wanted_yes rfl (yielded_of (t := 91) (by kernel_rfl) eg)) ?_
      clear eg
      refine Or.inl ?_
      have e0 : a.eval (.tmp 20) = .int .i64 K4 := hF.2.2 20 (by decide)
      clear hw hF
      simp only [Oper.wp, execOp]
      rw [e0]
      go_simp
      exact hK _ x (by first | rfl | simp) (Below.refl _ _) (fun h => by cases h)
    · simp only [wpOp, List.getElem?_toArray, List.getElem?_cons_succ, List.getElem?_cons_zero]
      have eg : a.tmps.getD 91 undef = .bool true := hw 18 (by kernel_rfl)
      refine ite_yes (wanted_yes rfl (yielded_of (t := 91) (by kernel_rfl) eg)) ?_
      clear eg
      refine Or.inl ?_
      have e0 : a.eval (.tmp 22) = .int .i64 K4 := hF.2.2 22 (by decide)
      clear hw hF
      simp only [Oper.wp, execOp]
      rw [e0]
      go_simp
      exact hK _ x (by first | rfl | simp) (Below.refl _ _) (fun h => by cases h)
    · simp only [wpOp, List.getElem?_toArray, List.getElem?_cons_succ, List.getElem?_cons_zero]
      have eg : a.tmps.getD 91 undef = .bool true := hw 18 (by kernel_rfl)
      refine ite_yes (wanted_yes rfl (yielded_of (t := 91) (by kernel_rfl) eg)) ?_
      clear eg
      refine Or.inl ?_
      have e0 : a.tmps.getD 92 undef = .int .i64 K4 := hw 19 (by kernel_rfl)
      have e1 : a.tmps.getD 93 undef = .int .i64 K4 := hw 20 (by kernel_rfl)
      clear hw hF
      have s0 : (V0 == V0) = true := by simp
      have s4 : (V4 == V4) = true := by simp
      have s5 : (K5 == K5) = true := by simp
      have s7 : (K4 == K4) = true := by simp
      have s6 : (V6 == V6) = true := by simp
      simp only [Oper.wp, execOp]
      go_simp
      exact hK _ x (by first | rfl | simp) (Below.refl _ _) (fun h => by cases h)
    · simp only [wpOp, List.getElem?_toArray, List.getElem?_cons_succ, List.getElem?_cons_zero, Region.wanted, if_true]
      refine Or.inl ?_
      have e0 : a.tmps.getD 91 undef = .bool true := hw 18 (by kernel_rfl)
      have e1 : a.tmps.getD 94 undef = .bool true := hw 21 (by kernel_rfl)
      clear hw hF
      have s0 : (V0 == V0) = true := by simp
      have s4 : (V4 == V4) = true := by simp
      have s5 : (K5 == K5) = true := by simp
      have s7 : (K4 == K4) = true := by simp
      have s6 : (V6 == V6) = true := by simp
      simp only [Oper.wp, execOp]
      go_simp
      exact hK _ x (by first | rfl | simp) (Below.refl _ _) (fun h => by cases h)
    · simp only [wpOp, List.getElem?_toArray, List.getElem?_cons_succ, List.getElem?_cons_zero, Region.wanted, if_true]
      refine Or.inl ?_
      have e0 : a.tmps.getD 95 undef = .bool true := hw 22 (by kernel_rfl)
      clear hw hF
      simp only [Oper.wp, execOp]
      go_simp
      exact hK _ x (by first | rfl | simp) (Below.refl _ _) (fun h => by cases h)
    · simp only [wpOp, List.getElem?_toArray, List.getElem?_cons_succ, List.getElem?_cons_zero]
      have eg : a.tmps.getD 96 undef = .bool true := hw 23 (by kernel_rfl)
      refine ite_yes (wanted_yes rfl (yielded_of (t := 96) (by kernel_rfl) eg)) ?_
      clear eg
      refine Or.inl ?_
      have e0 : a.eval (.tmp 21) = .bool V4 := hF.2.2 21 (by decide)
      clear hw hF
      simp only [Oper.wp, execOp]
      rw [e0]
      go_simp
      exact hK _ x (by first | rfl | simp) (Below.refl _ _) (fun h => by cases h)
    · simp only [wpOp, List.getElem?_toArray, List.getElem?_cons_succ, List.getElem?_cons_zero]
      have eg : a.tmps.getD 96 undef = .bool true := hw 23 (by kernel_rfl)
      refine ite_yes (wanted_yes rfl (yielded_of (t := 96) (by kernel_rfl) eg)) ?_
      clear eg
      refine Or.inl ?_
      have e0 : a.eval (.tmp 23) = .bool V4 := hF.2.2 23 (by decide)
      clear hw hF
      simp only [Oper.wp, execOp]
      rw [e0]
      go_simp
      exact hK _ x (by first | rfl | simp) (Below.refl _ _) (fun h => by cases h)
    · simp only [wpOp, List.getElem?_toArray, List.getElem?_cons_succ, List.getElem?_cons_zero]
      have eg : a.tmps.getD 96 undef = .bool true := hw 23 (by kernel_rfl)
      refine ite_yes (wanted_yes rfl (yielded_of (t := 96) (by kernel_rfl) eg)) ?_
      clear eg
      refine Or.inl ?_
      have e0 : a.tmps.getD 97 undef = .bool V4 := hw 24 (by kernel_rfl)
      have e1 : a.tmps.getD 98 undef = .bool V4 := hw 25 (by kernel_rfl)
      clear hw hF
      have s0 : (V0 == V0) = true := by simp
      have s4 : (V4 == V4) = true := by simp
      have s5 : (K5 == K5) = true := by simp
      have s7 : (K4 == K4) = true := by simp
      have s6 : (V6 == V6) = true := by simp
      simp only [Oper.wp, execOp]
      go_simp
      exact hK _ x (by first | rfl | simp) (Below.refl _ _) (fun h => by cases h)
    · simp only [wpOp, List.getElem?_toArray, List.getElem?_cons_succ, List.getElem?_cons_zero, Region.wanted, if_true]
      refine Or.inl ?_
      have e0 : a.tmps.getD 96 undef = .bool true := hw 23 (by kernel_rfl)
      have e1 : a.tmps.getD 99 undef = .bool true := hw 26 (by kernel_rfl)
      clear hw hF
      have s0 : (V0 == V0) = true := by simp
      have s4 : (V4 == V4) = true := by simp
      have s5 : (K5 == K5) = true := by simp
      have s7 : (K4 == K4) = true := by simp
      have s6 : (V6 == V6) = true := by simp
      simp only [Oper.wp, execOp]
      go_simp
      exact hK _ x (by first | rfl | simp) (Below.refl _ _) (fun h => by cases h)
    · simp only [wpOp, List.getElem?_toArray, List.getElem?_cons_succ, List.getElem?_cons_zero, Region.wanted, if_true]
      refine Or.inl ?_
      have e0 : a.tmps.getD 100 undef = .bool true := hw 27 (by kernel_rfl)
      clear hw hF
      simp only [Oper.wp, execOp]
      go_simp
      exact hK _ x (by first | rfl | simp) (Below.refl _ _) (fun h => by cases h)
    · simp only [wpOp, List.getElem?_toArray, List.getElem?_cons_succ, List.getElem?_cons_zero]
      have eg : a.tmps.getD 101 undef = .bool true := hw 28 (by kernel_rfl)
      refine ite_yes (wanted_yes rfl (yielded_of (t := 101) (by kernel_rfl) eg)) ?_
      clear eg
      refine Or.inl ?_
      have e0 : a.eval (.tmp 10) = .pointer (some ⟨w3.heap.size, 0, none⟩) := hF.2.2 10 (by decide)
      have f0 := row_cell Ra_23.out hb 0
      have f1 := row_cell Ra_23.out hb 1
      have f2 := row_cell Ra_23.out hb 2
      simp only [List.getElem?_toArray, List.getElem?_cons_succ, List.getElem?_cons_zero] at f0 f1 f2
      clear hw hF
      simp only [Oper.wp, execOp]
      rw [e0]
      go_simp
      exact hK _ x (by first | rfl | simp) (Below.refl _ _) (fun h => by cases h)
    · simp only [wpOp, List.getElem?_toArray, List.getElem?_cons_succ, List.getElem?_cons_zero]
      have eg : a.tmps.getD 101 undef = .bool true := hw 28 (by kernel_rfl)
      refine ite_yes (wanted_yes rfl (yielded_of (t := 101) (by kernel_rfl) eg)) ?_
      clear eg
      refine Or.inl ?_
      have e0 : a.eval (.tmp 11) = .pointer (some ⟨w5.heap.size, 0, none⟩) := hF.2.2 11 (by decide)
      have f0 := row_cell Rb_23.out hb 0
      have f1 := row_cell Rb_23.out hb 1
      have f2 := row_cell Rb_23.out hb 2
      simp only [List.getElem?_toArray, List.getElem?_cons_succ, List.getElem?_cons_zero] at f0 f1 f2
      clear hw hF
      simp only [Oper.wp, execOp]
      rw [e0]
      go_simp
      exact hK _ x (by first | rfl | simp) (Below.refl _ _) (fun h => by cases h)
    · simp only [wpOp, List.getElem?_toArray, List.getElem?_cons_succ, List.getElem?_cons_zero]
      have eg : a.tmps.getD 101 undef = .bool true := hw 28 (by kernel_rfl)
      refine ite_yes (wanted_yes rfl (yielded_of (t := 101) (by kernel_rfl) eg)) ?_
      clear eg
      refine Or.inl ?_
      have e0 : a.tmps.getD 102 undef = .agg #[.bool sx, .slice Ax tx.length cx, .int .i64 ex] := hw 29 (by kernel_rfl)
      have e1 : a.tmps.getD 103 undef = .agg #[.bool sy, .slice Ay ty.length cy, .int .i64 ey] := hw 30 (by kernel_rfl)
      clear hw hF
      simp only [Oper.wp, execOp]
      go_simp
      refine (PP5.out _ _ _ _ _ ((L23.out.step hb).get (A := Ax) (c := cx) (xs := tx) (by simp)) ((L23.out.step hb).get (A := Ay) (c := cy) (xs := ty) (by simp))).mono ?_
      rintro e y ⟨rfl, hbb⟩
      exact hK _ y rfl hbb (fun h => by cases h)
    · simp only [wpOp, List.getElem?_toArray, List.getElem?_cons_succ, List.getElem?_cons_zero]
      have eg : a.tmps.getD 101 undef = .bool true := hw 28 (by kernel_rfl)
      refine ite_yes (wanted_yes rfl (yielded_of (t := 101) (by kernel_rfl) eg)) ?_
      clear eg
      refine Or.inl ?_
      have e0 : a.eval (.tmp 10) = .pointer (some ⟨w3.heap.size, 0, none⟩) := hF.2.2 10 (by decide)
      have f0 := row_cell Ra_23.out hb 0
      have f1 := row_cell Ra_23.out hb 1
      have f2 := row_cell Ra_23.out hb 2
      simp only [List.getElem?_toArray, List.getElem?_cons_succ, List.getElem?_cons_zero] at f0 f1 f2
      clear hw hF
      simp only [Oper.wp, execOp]
      rw [e0]
      go_simp
      exact hK _ x (by first | rfl | simp) (Below.refl _ _) (fun h => by cases h)
    · simp only [wpOp, List.getElem?_toArray, List.getElem?_cons_succ, List.getElem?_cons_zero]
      have eg : a.tmps.getD 101 undef = .bool true := hw 28 (by kernel_rfl)
      refine ite_yes (wanted_yes rfl (yielded_of (t := 101) (by kernel_rfl) eg)) ?_
      clear eg
      refine Or.inl ?_
      have e0 : a.eval (.tmp 11) = .pointer (some ⟨w5.heap.size, 0, none⟩) := hF.2.2 11 (by decide)
      have f0 := row_cell Rb_23.out hb 0
      have f1 := row_cell Rb_23.out hb 1
      have f2 := row_cell Rb_23.out hb 2
      simp only [List.getElem?_toArray, List.getElem?_cons_succ, List.getElem?_cons_zero] at f0 f1 f2
      clear hw hF
      simp only [Oper.wp, execOp]
      rw [e0]
      go_simp
      exact hK _ x (by first | rfl | simp) (Below.refl _ _) (fun h => by cases h)
    · simp only [wpOp, List.getElem?_toArray, List.getElem?_cons_succ, List.getElem?_cons_zero]
      have eg : a.tmps.getD 101 undef = .bool true := hw 28 (by kernel_rfl)
      refine ite_yes (wanted_yes rfl (yielded_of (t := 101) (by kernel_rfl) eg)) ?_
      clear eg
      refine Or.inl ?_
      have e0 : a.tmps.getD 105 undef = .agg #[.bool sx, .slice Ax tx.length cx, .int .i64 ex] := hw 32 (by kernel_rfl)
      have e1 : a.tmps.getD 106 undef = .agg #[.bool sy, .slice Ay ty.length cy, .int .i64 ey] := hw 33 (by kernel_rfl)
      clear hw hF
      simp only [Oper.wp, execOp]
      go_simp
      refine (QQ5.out _ _ _ _ _ ((L23.out.step hb).get (A := Ax) (c := cx) (xs := tx) (by simp)) ((L23.out.step hb).get (A := Ay) (c := cy) (xs := ty) (by simp))).mono ?_
      rintro e y ⟨rfl, hbb⟩
      exact hK _ y rfl hbb (fun h => by cases h)
    · simp only [wpOp, List.getElem?_toArray, List.getElem?_cons_succ, List.getElem?_cons_zero]
      have eg : a.tmps.getD 101 undef = .bool true := hw 28 (by kernel_rfl)
      refine ite_yes (wanted_yes rfl (yielded_of (t := 101) (by kernel_rfl) eg)) ?_
      clear eg
      refine Or.inl ?_
      have e0 : a.tmps.getD 104 undef = .int .i64 K5 := hw 31 (by kernel_rfl)
      have e1 : a.tmps.getD 107 undef = .int .i64 K5 := hw 34 (by kernel_rfl)
      clear hw hF
      have s0 : (V0 == V0) = true := by simp
      have s4 : (V4 == V4) = true := by simp
      have s5 : (K5 == K5) = true := by simp
      have s7 : (K4 == K4) = true := by simp
      have s6 : (V6 == V6) = true := by simp
      simp only [Oper.wp, execOp]
      go_simp
      exact hK _ x (by first | rfl | simp) (Below.refl _ _) (fun h => by cases h)
    · simp only [wpOp, List.getElem?_toArray, List.getElem?_cons_succ, List.getElem?_cons_zero, Region.wanted, if_true]
      refine Or.inl ?_
      have e0 : a.tmps.getD 101 undef = .bool true := hw 28 (by kernel_rfl)
      have e1 : a.tmps.getD 108 undef = .bool true := hw 35 (by kernel_rfl)
      clear hw hF
      have s0 : (V0 == V0) = true := by simp
      have s4 : (V4 == V4) = true := by simp
      have s5 : (K5 == K5) = true := by simp
      have s7 : (K4 == K4) = true := by simp
      have s6 : (V6 == V6) = true := by simp
      simp only [Oper.wp, execOp]
      go_simp
      exact hK _ x (by first | rfl | simp) (Below.refl _ _) (fun h => by cases h)
    · simp only [wpOp, List.getElem?_toArray, List.getElem?_cons_succ, List.getElem?_cons_zero, Region.wanted, if_true]
      refine Or.inl ?_
      have e0 : a.tmps.getD 109 undef = .bool true := hw 36 (by kernel_rfl)
      clear hw hF
      simp only [Oper.wp, execOp]
      go_simp
      exact hK _ x (by first | rfl | simp) (Below.refl _ _) (fun h => by cases h)
    · simp only [wpOp, List.getElem?_toArray, List.getElem?_cons_succ, List.getElem?_cons_zero]
      have eg : a.tmps.getD 110 undef = .bool true := hw 37 (by kernel_rfl)
      refine ite_yes (wanted_yes rfl (yielded_of (t := 110) (by kernel_rfl) eg)) ?_
      clear eg
      refine Or.inl ?_
      have e0 : a.eval (.tmp 4) = .pointer (some ⟨w.heap.size, 0, none⟩) := hF.2.2 4 (by decide)
      have f0 := row_cell Rx_23.out hb 0
      have f1 := row_cell Rx_23.out hb 1
      have f2 := row_cell Rx_23.out hb 2
      simp only [List.getElem?_toArray, List.getElem?_cons_succ, List.getElem?_cons_zero] at f0 f1 f2
      clear hw hF
      simp only [Oper.wp, execOp]
      rw [e0]
      go_simp
      exact hK _ x (by first | rfl | simp) (Below.refl _ _) (fun h => by cases h)
    · simp only [wpOp, List.getElem?_toArray, List.getElem?_cons_succ, List.getElem?_cons_zero]
      have eg : a.tmps.getD 110 undef = .bool true := hw 37 (by kernel_rfl)
      refine ite_yes (wanted_yes rfl (yielded_of (t := 110) (by kernel_rfl) eg)) ?_
      clear eg
      refine Or.inl ?_
      have e0 : a.tmps.getD 111 undef = .agg #[.bool sx, .slice Ax xsx.length cx, .int .i64 ex] := hw 38 (by kernel_rfl)
      clear hw hF
      simp only [Oper.wp, execOp]
      go_simp
      refine (dright_any Ax cx sx xsx ex _ ((L23.out.step hb).get (A := Ax) (c := cx) (xs := xsx) (by simp)) V6 H6.out LXW.out).mono ?_
      rintro e y ⟨rfl, hbb⟩
      exact hK _ y rfl hbb (fun h => by cases h)
    · simp only [wpOp, List.getElem?_toArray, List.getElem?_cons_succ, List.getElem?_cons_zero]
      have eg : a.tmps.getD 110 undef = .bool true := hw 37 (by kernel_rfl)
      refine ite_yes (wanted_yes rfl (yielded_of (t := 110) (by kernel_rfl) eg)) ?_
      clear eg
      refine Or.inl ?_
      have e0 : a.eval (.tmp 4) = .pointer (some ⟨w.heap.size, 0, none⟩) := hF.2.2 4 (by decide)
      have f0 := row_cell Rx_23.out hb 0
      have f1 := row_cell Rx_23.out hb 1
      have f2 := row_cell Rx_23.out hb 2
      simp only [List.getElem?_toArray, List.getElem?_cons_succ, List.getElem?_cons_zero] at f0 f1 f2
      clear hw hF
      simp only [Oper.wp, execOp]
      rw [e0]
      go_simp
      exact hK _ x (by first | rfl | simp) (Below.refl _ _) (fun h => by cases h)
    · simp only [wpOp, List.getElem?_toArray, List.getElem?_cons_succ, List.getElem?_cons_zero]
      have eg : a.tmps.getD 110 undef = .bool true := hw 37 (by kernel_rfl)
      refine ite_yes (wanted_yes rfl (yielded_of (t := 110) (by kernel_rfl) eg)) ?_
      clear eg
      refine Or.inl ?_
      have e0 : a.tmps.getD 113 undef = .agg #[.bool sx, .slice Ax xsx.length cx, .int .i64 ex] := hw 40 (by kernel_rfl)
      clear hw hF
      simp only [Oper.wp, execOp]
      go_simp
      refine (r5right_any ((L23.out.step hb).get (A := Ax) (c := cx) (xs := xsx) (by simp)) LXW.out H6.out).mono ?_
      rintro e y ⟨rfl, hbb⟩
      exact hK _ y rfl hbb (fun h => by cases h)
    · simp only [wpOp, List.getElem?_toArray, List.getElem?_cons_succ, List.getElem?_cons_zero]
      have eg : a.tmps.getD 110 undef = .bool true := hw 37 (by kernel_rfl)
      refine ite_yes (wanted_yes rfl (yielded_of (t := 110) (by kernel_rfl) eg)) ?_
      clear eg
      refine Or.inl ?_
      have e0 : a.tmps.getD 112 undef = .bool V6 := hw 39 (by kernel_rfl)
      have e1 : a.tmps.getD 114 undef = .bool V6 := hw 41 (by kernel_rfl)
      clear hw hF
      have s0 : (V0 == V0) = true := by simp
      have s4 : (V4 == V4) = true := by simp
      have s5 : (K5 == K5) = true := by simp
      have s7 : (K4 == K4) = true := by simp
      have s6 : (V6 == V6) = true := by simp
      simp only [Oper.wp, execOp]
      go_simp
      exact hK _ x (by first | rfl | simp) (Below.refl _ _) (fun h => by cases h)
    · simp only [wpOp, List.getElem?_toArray, List.getElem?_cons_succ, List.getElem?_cons_zero, Region.wanted, if_true]
      refine Or.inl ?_
      have e0 : a.tmps.getD 110 undef = .bool true := hw 37 (by kernel_rfl)
      have e1 : a.tmps.getD 115 undef = .bool true := hw 42 (by kernel_rfl)
      clear hw hF
      have s0 : (V0 == V0) = true := by simp
      have s4 : (V4 == V4) = true := by simp
      have s5 : (K5 == K5) = true := by simp
      have s7 : (K4 == K4) = true := by simp
      have s6 : (V6 == V6) = true := by simp
      simp only [Oper.wp, execOp]
      go_simp
      exact hK _ x (by first | rfl | simp) (Below.refl _ _) (fun h => by cases h)
  · intro a x hF hb hR _
    have e0 : a.tmps.getD 73 undef = .bool true := hR 0 (by decide)
    have e1 : a.tmps.getD 74 undef = .bool true := hR 1 (by decide)
    have e2 : a.tmps.getD 75 undef = .bool true := hR 2 (by decide)
    have e3 : a.tmps.getD 76 undef = .bool true := hR 3 (by decide)
    have e4 : a.tmps.getD 77 undef = .bool true := hR 4 (by decide)
    have e5 : a.tmps.getD 78 undef = .bool V0 := hR 5 (by decide)
    have e6 : a.tmps.getD 79 undef = .bool V0 := hR 6 (by decide)
    have e7 : a.tmps.getD 80 undef = .bool true := hR 7 (by decide)
    have e8 : a.tmps.getD 81 undef = .bool true := hR 8 (by decide)
    have e9 : a.tmps.getD 82 undef = .bool true := hR 9 (by decide)
    have e10 : a.tmps.getD 83 undef = .bool true := hR 10 (by decide)
    have e11 : a.tmps.getD 84 undef = .bool true := hR 11 (by decide)
    have e12 : a.tmps.getD 85 undef = .bool true := hR 12 (by decide)
    have e13 : a.tmps.getD 86 undef = .bool true := hR 13 (by decide)
    have e14 : a.tmps.getD 87 undef = .bool true := hR 14 (by decide)
    have e15 : a.tmps.getD 88 undef = .bool true := hR 15 (by decide)
    have e16 : a.tmps.getD 89 undef = .bool true := hR 16 (by decide)
    have e17 : a.tmps.getD 90 undef = .bool true := hR 17 (by decide)
    have e18 : a.tmps.getD 91 undef = .bool true := hR 18 (by decide)
    have e19 : a.tmps.getD 92 undef = .int .i64 K4 := hR 19 (by decide)
    have e20 : a.tmps.getD 93 undef = .int .i64 K4 := hR 20 (by decide)
    have e21 : a.tmps.getD 94 undef = .bool true := hR 21 (by decide)
    have e22 : a.tmps.getD 95 undef = .bool true := hR 22 (by decide)
    have e23 : a.tmps.getD 96 undef = .bool true := hR 23 (by decide)
    have e24 : a.tmps.getD 97 undef = .bool V4 := hR 24 (by decide)
    have e25 : a.tmps.getD 98 undef = .bool V4 := hR 25 (by decide)
    have e26 : a.tmps.getD 99 undef = .bool true := hR 26 (by decide)
    have e27 : a.tmps.getD 100 undef = .bool true := hR 27 (by decide)
    have e28 : a.tmps.getD 101 undef = .bool true := hR 28 (by decide)
    have e29 : a.tmps.getD 102 undef = .agg #[.bool sx, .slice Ax tx.length cx, .int .i64 ex] := hR 29 (by decide)
    have e30 : a.tmps.getD 103 undef = .agg #[.bool sy, .slice Ay ty.length cy, .int .i64 ey] := hR 30 (by decide)
    have e31 : a.tmps.getD 104 undef = .int .i64 K5 := hR 31 (by decide)
    have e32 : a.tmps.getD 105 undef = .agg #[.bool sx, .slice Ax tx.length cx, .int .i64 ex] := hR 32 (by decide)
    have e33 : a.tmps.getD 106 undef = .agg #[.bool sy, .slice Ay ty.length cy, .int .i64 ey] := hR 33 (by decide)
    have e34 : a.tmps.getD 107 undef = .int .i64 K5 := hR 34 (by decide)
    have e35 : a.tmps.getD 108 undef = .bool true := hR 35 (by decide)
    have e36 : a.tmps.getD 109 undef = .bool true := hR 36 (by decide)
    have e37 : a.tmps.getD 110 undef = .bool true := hR 37 (by decide)
    have e38 : a.tmps.getD 111 undef = .agg #[.bool sx, .slice Ax xsx.length cx, .int .i64 ex] := hR 38 (by decide)
    have e39 : a.tmps.getD 112 undef = .bool V6 := hR 39 (by decide)
    have e40 : a.tmps.getD 113 undef = .agg #[.bool sx, .slice Ax xsx.length cx, .int .i64 ex] := hR 40 (by decide)
    have e41 : a.tmps.getD 114 undef = .bool V6 := hR 41 (by decide)
    have e42 : a.tmps.getD 115 undef = .bool true := hR 42 (by decide)
    have e43 : a.tmps.getD 116 undef = .bool true := hR 43 (by decide)
    rw [hF.fold (by kernel_rfl)]
    simp only [List.foldl_cons, List.foldl_nil, e0, e1, e2, e3, e4, e5, e6, e7, e8, e9, e10, e11, e12, e13, e14, e15, e16, e17, e18, e19, e20, e21, e22, e23, e24, e25, e26, e27, e28, e29, e30, e31, e32, e33, e34, e35, e36, e37, e38, e39, e40, e41, e42, e43]
    simp only [Act.put, List.setIfInBounds_toArray, List.set_cons_zero, List.set_cons_succ]
    change wpOps _ _ _ [44] _ _
    simp only [wpOps_cons]
    clear e0 e1 e2 e3 e4 e5 e6 e7 e8 e9 e10 e11 e12 e13 e14 e15 e16 e17 e18 e19 e20 e21 e22 e23 e24 e25 e26 e27 e28 e29 e30 e31 e32 e33 e34 e35 e36 e37 e38 e39 e40 e41 e42 e43 hR hF
    have HE := ls L23 hb
    simp only [wpOp, List.getElem?_toArray, List.getElem?_cons_succ, List.getElem?_cons_zero, Region.wanted, if_true]
    refine Or.inl ?_
    simp only [Oper.wp, execOp]
    go_simp
    try simp only [wpOps]
    go_wp2
    go_ret
    exact ⟨rfl, HE.out.1⟩
end Go.Proofs.YtaciohjobenipaaDoor
end

section
/-
  DyadMakes, FOR EVERY ARGUMENT: the law returns true, and each argument reads behind the call as it read ahead of it. THE TIED CARD.
-/
namespace Go.Proofs.YtaciohjobenipaaDoor.dyadMakes
open Go Go.ChangeShapes Go.WideShapes Go.ChangeAt Go.RowKit
set_option linter.unusedVariables false
/-- The door's own heap meets the condition. -/
theorem door_met (os : Os) (args : Array Value) : laidMetH Tryd.prog Rows.dyadMakesRow.laid ((World.doorLaid Tryd.prog 400 os).forCall (fun _ _ => 0) ⟨#[], args, []⟩).memory :=
  laidMetH_of_parts3 (fuel := 8) (laidMet_of_run' 8 (by kernel_rfl) (by kernel_rfl)) (by kernel_rfl) (by kernel_rfl)
set_option maxRecDepth 100000 in
theorem lifted (os : Os) (started : os.Started) (H : Type) (enc : TypeId × Value → H) :
    ReturnsInHanded {} Tryd.checked os 3 .any (fun w args => (Rows.dyadMakesSpec.pre enc Tryd.prog Tryd.f3 [] false w args ∧ laidMetH Tryd.prog Rows.dyadMakesRow.laid w) ∧ sizedMet enc Tryd.prog Tryd.f3 (OpenSpec.ofChange Rows.dyadMakesSpec) false w args)
      (Rows.dyadMakesSpec.post enc Tryd.prog Tryd.f3 false true false false) := by
  refine returnsInHanded_of_change_and (C := Tryd.checked) (X := fun w _ => laidMetH Tryd.prog Rows.dyadMakesRow.laid w) (fun _ _ _ hh h => h.of_heap hh) own started (by kernel_rfl) Tryd.func3
    (ChangeSpec.witness_shaped (enc := enc) (C := Tryd.checked) (os := os) (X := fun w _ => laidMetH Tryd.prog Rows.dyadMakesRow.laid w) false (World.doorLaid Tryd.prog 400 os) #[.agg #[.bool false, .slice none 0 0, .int .i64 0], .agg #[.bool false, .slice none 0 0, .int .i64 0], .int .i64 0, .int .i64 0] 8 rfl (World.shaped_of_RefB (by kernel_rfl) (by kernel_rfl)) (by kernel_rfl) (by kernel_rfl) (by kernel_rfl) (door_met os _)) ?_
  intro W base args ds gs before hval0 hW _ _ hL _
  rw [MakeChecks.laidMetH_plain _ _ _ (by kernel_rfl)] at hL
  have htab := t32_laid hL
  clear hL
  have hval : ∀ (j : Nat) t v, Tryd.f3.params[j]? = some t → args[j]? = some v → Value.okWide Tryd.prog W .any base t v := hval0
  have hW' := hW
  obtain ⟨p, q, hA0, hV, rfl, hfz, hnd⟩ := hW
  have hA : DataW.TrodAll enc Tryd.prog W 0 (fun _ => true) true Tryd.f3.params.toList args.toList ds p := hA0
  rw [Tryd.params3] at hA hval
  obtain ⟨v0, vs0, d0, ds0, p0, q0, hargs, rfl, rfl, h0, r0⟩ := trodAll_cons hA
  obtain ⟨v1, vs1, d1, ds1, p1, q1, rfl, rfl, rfl, h1, r1⟩ := trodAll_cons r0
  obtain ⟨v2, vs2, d2, ds2, p2, q2, rfl, rfl, rfl, h2, r2⟩ := trodAll_cons r1
  obtain ⟨v3, vs3, d3, ds3, p3, q3, rfl, rfl, rfl, h3, r3⟩ := trodAll_cons r2
  obtain ⟨rfl, rfl, rfl⟩ := trodAll_nil r3
  obtain rfl : args = #[v0, v1, v2, v3] := by cases args; simp_all
  obtain ⟨rfl, rfl⟩ := trodVars_none hV
  obtain ⟨s0, A0, c0, xs0, x0, rfl, g0, l0, x00, x01⟩ := open_d (hval 0 _ _ rfl rfl) h0
  obtain ⟨s1, A1, c1, xs1, x1, rfl, g1, l1, x10, x11⟩ := open_d (hval 1 _ _ rfl rfl) h1
  obtain ⟨a2, rfl, e2, e2', g2⟩ := open_int Tryd.underlying3 (hval 2 _ _ rfl rfl) h2
  obtain ⟨a3, rfl, e3, e3', g3⟩ := open_int Tryd.underlying3 (hval 3 _ _ rfl rfl) h3
  clear hA0
  simp only [List.append_nil] at hW'
  refine (dyadMakes_any A0 c0 s0 xs0 x0 A1 c1 s1 xs1 x1 a2 a3 W g0 l0 x00 x01 g1 l1 x10 x11 (i64_lo g2) (i64_hi g2) (i64_lo g3) (i64_hi g3) htab).mono fun e W' ⟨he, hb⟩ => ?_
  subst he
  have hlt := hW'.lt
  refine ⟨_, rfl, law_post (tb := 4) hW' hb rfl rfl Tryd.underlying4 rfl rfl fun sp hsp => ?_⟩
  have hr := trodAll_cons_mk (again (by kernel_rfl) (of_decide_eq_true (by kernel_rfl)) h0 hb (fun x hx => hlt x (by simp [hx])) sp (fun x hx => hsp x (by simp [hx]))) (trodAll_cons_mk (again (by kernel_rfl) (of_decide_eq_true (by kernel_rfl)) h1 hb (fun x hx => hlt x (by simp [hx])) sp (fun x hx => hsp x (by simp [hx]))) (trodAll_cons_mk (again (by kernel_rfl) (of_decide_eq_true (by kernel_rfl)) h2 hb (fun x hx => hlt x (by simp [hx])) sp (fun x hx => hsp x (by simp [hx]))) (trodAll_cons_mk (again (by kernel_rfl) (of_decide_eq_true (by kernel_rfl)) h3 hb (fun x hx => hlt x (by simp [hx])) sp (fun x hx => hsp x (by simp [hx]))) trodAll_mk0)))
  simp only [List.append_nil] at hr
  exact hr
theorem row_holds : Rows.DyadMakesSaid :=
  OpenClaim.holds_of_wide 3 Tryd.f3 rfl rfl rfl rfl rfl rfl rfl ⟨rfl, rfl, rfl, rfl, rfl⟩ rfl rfl rfl rfl rfl (by kernel_rfl) Tryd.func3 (by kernel_rfl)
    (of_decide_eq_true (by kernel_rfl)) (by unfold Func.isWrapper; first | (rw [if_pos (by decide +kernel)]; kernel_rfl) | (rw [if_neg (by decide +kernel)]; exact ⟨rfl, rfl⟩))
    (fun os started H enc _ => lifted os started H enc)
/-- THE TIED CARD. -/
theorem proved : Rows.DyadMakesCardSaid :=
  Claim7.holds_tied_plain_at .later [] [.data] true (true, "a0ee95ec608e429a44ba4d6df51e3df1264843540f127cf759ae64bd4c51b811") false
    row_holds (fun _ h => by cases h) (by kernel_rfl) (fun _ h => by cases h) dyadMakes_row_tie rfl ⟨rfl, rfl⟩ (by kernel_rfl) rfl
    (fun f fn hf hfn => by
      obtain rfl : f = 3 := Option.some.inj ((show Tryd.prog.funcNamed Rows.dyadMakesRow.func = some 3 by kernel_rfl).symm.trans hf) |>.symm
      obtain rfl : fn = Tryd.f3 := (Option.some.inj (Tryd.func3.symm.trans hfn)).symm
      exact ⟨by kernel_rfl, fun j t ht => by
        have hall : (Tryd.f3.params.toList.all fun u => !Tryd.prog.wantsStandIn u) = true := by kernel_rfl
        exact (show Tryd.prog.wantsStandIn t = false by simpa using List.all_eq_true.1 hall t (Array.mem_toList_iff.2 (Array.mem_of_getElem? ht)))⟩)
    (by kernel_rfl)
end Go.Proofs.YtaciohjobenipaaDoor.dyadMakes
end
