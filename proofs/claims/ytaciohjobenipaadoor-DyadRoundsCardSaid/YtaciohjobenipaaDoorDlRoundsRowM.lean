import Derived.Test.YtaciohjobenipaaDoorMB5
import Derived.Test.YtaciohjobenipaaDoorMB3
import Derived.Test.YtaciohjobenipaaDoorMB2
import Derived.Test.YtaciohjobenipaaDoorMB1
import Derived.Test.YtaciohjobenipaaDoorMB4
import Derived.Test.YtaciohjobenipaaDoorTie
import Derived.Test.YtaciohjobenipaaDoorCards
import Derived.SevenTiedAt
import Derived.OpenShut
import Derived.ChangeMaps5
section
/-
  ref05: prec, cut, Round.
-/
namespace Go.Proofs.YtaciohjobenipaaDoor
open Go.RowKit
set_option linter.unusedSimpArgs false
set_option linter.unusedVariables false
theorem r5prec (P : Int) (w : World) {q : Bool} (hq : precB P = q) :
    Calls Tryd.prog 69 #[.int .i64 P] w fun e w' => e = .returned (.bool q) ∧ w = w' := by
  unfold precB at hq
  by_cases h1 : 2 ≤ P
  · have d1 : decide (2 ≤ P) = true := decide_eq_true h1
    by_cases h2 : P ≤ 400
    · have d2 : decide (P ≤ 400) = true := decide_eq_true h2
      rw [d1, d2] at hq
      subst hq
      clear h1 h2
      go_enter Tryd.func69, Tryd.ntmps69
      go_wp2
      go_ret
      exact ⟨rfl, rfl⟩
    · have d2 : decide (P ≤ 400) = false := decide_eq_false h2
      rw [d1, d2] at hq
      subst hq
      clear h1 h2
      go_enter Tryd.func69, Tryd.ntmps69
      go_wp2
      go_ret
      exact ⟨rfl, rfl⟩
  · have d1 : decide (2 ≤ P) = false := decide_eq_false h1
    rw [d1, Bool.false_and] at hq
    subst hq
    clear h1
    go_enter Tryd.func69, Tryd.ntmps69
    go_wp2
    go_ret
    exact ⟨rfl, rfl⟩
theorem dg_oneU {w : World} {g : Nat} {T : TypeId} (h : w.heap[g]? = some (.cells #[.int .u32 1] T (0, 0))) : Dg w (some ⟨g, 0, none⟩) 1 [1] :=
  ⟨Nat.le_refl _, by intro x hx; simp at hx; omega, fun _ => ⟨g, 0, rfl, heap_lt h, fun j hj => by
    have : j = 0 := by simp at hj; omega
    subst this
    exact row_c h rfl⟩⟩
theorem radd1U {A : Option Addr} {c k g : Nat} {T : TypeId} {w : World} (h : Dg w A c (digs k)) (hl : (digs k).length ≤ 100000) (hR : w.heap[g]? = some (.cells #[.int .u32 1] T (0, 0))) :
    Calls Tryd.prog 96 #[.slice A (digs k).length c, .slice (some ⟨g, 0, none⟩) 1 1] w fun e w' => ∃ A' c', e = .returned (.slice A' (digs (k + 1)).length c') ∧ Dg w' A' c' (digs (k + 1)) ∧ Below w.heap.size w w' := by
  have := radd_any A (some ⟨g, 0, none⟩) c 1 (digs k) [1] w h (dg_oneU hR) (by omega) (by simp)
  rw [val_digs, show val [1] = 1 from rfl] at this
  exact this
theorem rshr_i {A : Option Addr} {c q d k : Nat} {i : Int} {w : World} (h : Dg w A c (digs q)) (hl : (digs q).length ≤ 100000) (hi : i = (d : Int)) (hd : d ≤ 1000000) (hk : q / 2 ^ d = k) :
    Calls Tryd.prog 84 #[.slice A (digs q).length c, .int .i64 i] w fun e w' => ∃ A' c', e = .returned (.slice A' (digs k).length c') ∧ Dg w' A' c' (digs k) ∧ Below w.heap.size w w' := by
  subst hi hk; exact rshr_z h (by omega) (by omega)
theorem rshl_i {A : Option Addr} {c q d k : Nat} {i : Int} {w : World} (h : Dg w A c (digs q)) (hl : (digs q).length ≤ 100000) (hi : i = (d : Int)) (hd : d ≤ 100000) (hk : q * 2 ^ d = k) :
    Calls Tryd.prog 101 #[.slice A (digs q).length c, .int .i64 i] w fun e w' => ∃ A' c', e = .returned (.tuple #[.slice A' (digs k).length c', .bool true]) ∧ Dg w' A' c' (digs k) ∧ Below w.heap.size w w' := by
  subst hi hk; exact rshl_z h (by omega) hd
theorem rcmp_i {A B : Option Addr} {c d a b : Nat} {j : Int} {w : World} (h : Dg w A c (digs a)) (h' : Dg w B d (digs b)) (hl : (digs a).length ≤ 100000) (hl' : (digs b).length ≤ 100000) (hj : cmpi a b = j) :
    Calls Tryd.prog 92 #[.slice A (digs a).length c, .slice B (digs b).length d] w fun e w' => e = .returned (.int .i64 j) ∧ w = w' := by
  have := rcmp_any A B c d _ _ w h h' (by omega) (by omega)
  rw [val_digs, val_digs, hj] at this; exact this
theorem cmpi_low {q k b d : Nat} (hk : q / 2 ^ d = k) (hb : k * 2 ^ d = b) : (cmpi b q != 0) = decide (q % 2 ^ d ≠ 0) := by
  have e := Nat.div_add_mod q (2 ^ d)
  rw [hk, Nat.mul_comm, hb] at e
  rcases Nat.eq_zero_or_pos (q % 2 ^ d) with h | h
  · rw [h, cmpi_eq (by omega)]; rfl
  · rw [cmpi_lt (by omega), decide_eq_true (by omega)]; rfl
theorem kept_le (q p : Nat) (m a : Bool) : kept q p m a ≤ q + 1 := by
  unfold kept
  have := Nat.div_le_self q (2 ^ (blen q - p))
  split <;> omega
theorem kept_small {q p : Nat} {a : Bool} (h : blen q ≤ p) : kept q p false a = q := by
  unfold kept
  rw [show blen q - p = 0 by omega, Nat.pow_zero, Nat.div_one, Nat.mod_one]
  simp

set_option maxHeartbeats 4000000 in
set_option maxRecDepth 100000 in
theorem r5cut_nna (A : Option Addr) (c : Nat) (s : Bool) (q : Nat) (y P : Int) (p : Nat) (M E : Int) (w : World) (h : Dg w A c (digs q)) (hl : (digs q).length ≤ 3000) (hP : (p : Int) = P) (p4 : p ≤ 400) (hb : p < blen q) (y0 : -900000 ≤ y) (y1 : y ≤ 900000) (hM : nm (sg s (q / 2 ^ (blen q - p))) = M) (hE : nx (sg s (q / 2 ^ (blen q - p))) (y + (blen q - p : Nat)) = E) (hlow : decide (q % 2 ^ (blen q - p) ≠ 0) = false):
    Calls Tryd.prog 70 #[.bool s, .slice A (digs q).length c, .int .i64 y, .bool false, .int .i64 P, .bool true] w fun e w' => Yr M E w e w' := by
  have b1 : blen q ≤ 96000 := by have := bl_bd (m := (q : Int)) (k := 3000) (by rw [Int.natAbs_natCast]; exact hl); rwa [Int.natAbs_natCast] at this
  obtain ⟨z, hz⟩ : ∃ z : Int, (blen q : Int) = z := ⟨_, rfl⟩
  obtain ⟨d, hd⟩ : ∃ d : Nat, blen q - p = d := ⟨_, rfl⟩
  rw [hd] at hM hE hlow
  have hzd : z - P = (d : Int) := by omega
  have hg : decide (0 < z - P) = true := decide_eq_true (by omega)
  have hg2 : decide (P < z) = true := decide_eq_true (by omega)
  obtain ⟨k, hk⟩ : ∃ k, q / 2 ^ d = k := ⟨_, rfl⟩
  obtain ⟨b, hbk⟩ : ∃ b, k * 2 ^ d = b := ⟨_, rfl⟩
  have hc := cmpi_low hk hbk
  obtain ⟨j, hj⟩ : ∃ j, cmpi b q = j := ⟨_, rfl⟩
  rw [hj] at hc
  rw [hlow] at hc
  have hkl := digs_len_mono _ _ (hk ▸ Nat.div_le_self q (2 ^ d) : k ≤ q)
  have hkl1 := digs_add_len k 1
  have l1 : (digs 1).length = 1 := by rw [digs_one (by omega) (by omega)]; rfl
  have hbl := digs_len_mono _ _ (show b ≤ q by rw [← hbk, ← hk]; exact Nat.div_mul_le_self q (2 ^ d))
  rw [hk] at hM hE
  have HZ := Lib.hid hz
  have HZD := Lib.hid hzd
  have HD := Lib.hid (show d ≤ 100000 by omega)
  have LX := Lib.hid hl
  have LK := Lib.hid (show (digs k).length ≤ 3001 by omega)
  have LK1 := Lib.hid (show (digs (k + 1)).length ≤ 3002 by omega)
  have LB := Lib.hid (show (digs b).length ≤ 3001 by omega)
  have HK := Lib.hid hk
  have HB := Lib.hid hbk
  have HJ := Lib.hid hj
  have HM := Lib.hid hM
  have HE := Lib.hid (show nx (sg s (k)) (y + (z - P)) = E by rw [hzd]; exact hE)
  have SZ := Lib.hid (show sg s (val (digs (k))) = sg s (k) by rw [val_digs])
  have LZ := Lib.hid (show (digs (sg s (k)).natAbs).length ≤ 100000 by rw [sg_abs]; omega)
  have YB := Lib.hid (show -1000000 ≤ y + (z - P) ∧ y + (z - P) ≤ 1000000 by omega)
  have z0 : 0 ≤ z := by omega
  have z1 : z ≤ 96000 := by omega
  have pp0 : 0 ≤ P := by omega
  have pp1 : P ≤ 400 := by omega
  have zp0 : 0 ≤ z - P := by omega
  have L0 := Lib.hid ((live_start w).add h)
  clear h hl hP hb hM hE b1 hz hd hzd hk hbk hj hkl hkl1 l1 hbl p4 hlow
  go_enter Tryd.func70, Tryd.ntmps70
  go_wp2_with fail
  obtain ⟨v1, hW, hb, Rr_1⟩ := new1 w (.cells #[.bool false, .slice none 0 0, .int .i64 0] 26)
  rw [← hW]
  have L1 := ls L0 hb
  have Gr := gl0 L0.out
  clear hW hb
  refine (rbits_z (L1.out.get (A := A) (c := c) (xs := digs q) (by simp)) (Nat.le_trans LX.out (by omega)) HZ.out).mono ?_
  rintro e w2 ⟨rfl, hb⟩
  have L2 := ls L1 hb
  have Rr_2 := co Rr_1 hb
  clear hb 
  go_wp2_with fail
  refine (rshr_i (L2.out.get (A := A) (c := c) (xs := digs q) (by simp)) (Nat.le_trans LX.out (by omega)) HZD.out (Nat.le_trans HD.out (by omega)) HK.out).mono ?_
  rintro e w3 ⟨A3, c3, rfl, hd, hb⟩
  have L3 := la L2 hb hd
  have Rr_3 := co Rr_2 hb
  clear hb hd
  go_wp2_with fail
  refine (rshl_i (L3.out.get (A := A3) (c := c3) (xs := digs k) (by simp)) (Nat.le_trans LK.out (by omega)) HZD.out HD.out HB.out).mono ?_
  rintro e w4 ⟨A4, c4, rfl, hd, hb⟩
  have L4 := la L3 hb hd
  have Rr_4 := co Rr_3 hb
  clear hb hd
  go_wp2_with fail
  refine (rcmp_i (L4.out.get (A := A4) (c := c4) (xs := digs b) (by simp)) (L4.out.get (A := A) (c := c) (xs := digs q) (by simp)) (Nat.le_trans LB.out (by omega)) (Nat.le_trans LX.out (by omega)) HJ.out).mono ?_
  rintro e w5 ⟨rfl, rfl⟩
  go_wp2_with fail
  refine (rnorm_z (z := sg s k) (L4.out.get (A := A3) (c := c3) (xs := digs k) (by simp)) (Nat.le_trans LK.out (by omega)) SZ.out LZ.out YB.out.1 YB.out.2 HM.out HE.out).mono ?_
  rintro e w6 ⟨A6, c6, rfl, hd, hb⟩
  have L6 := la L4 hb hd
  have Rr_6 := co Rr_4 hb
  clear hb hd
  obtain ⟨fr0, zr0, fr1, zr1, fr2, zr2, xr⟩ := ly3 Rr_6.out
  go_wp2
  refine bodyPost_ret (v := .agg #[.bool (decide (M < 0)), .slice A6 (digs M.natAbs).length c6, .int .i64 E]) (by simp [results, Tryd.results70, go_sem, fr0, fr1, fr2]) rfl ?_
  
  refine ⟨A6, c6, rfl, ?_, ?_⟩
  · exact (fin3 L6.out Rr_6.out noint3 Gr).get (A := A6) (c := c6) (xs := digs M.natAbs) (by simp)
  · exact (fin3 L6.out Rr_6.out noint3 Gr).1

set_option maxHeartbeats 4000000 in
set_option maxRecDepth 100000 in
theorem r5cut_nnf (A : Option Addr) (c : Nat) (s : Bool) (q : Nat) (y P : Int) (p : Nat) (M E : Int) (w : World) (h : Dg w A c (digs q)) (hl : (digs q).length ≤ 3000) (hP : (p : Int) = P) (p4 : p ≤ 400) (hb : p < blen q) (y0 : -900000 ≤ y) (y1 : y ≤ 900000) (hM : nm (sg s (q / 2 ^ (blen q - p))) = M) (hE : nx (sg s (q / 2 ^ (blen q - p))) (y + (blen q - p : Nat)) = E) (hlow : decide (q % 2 ^ (blen q - p) ≠ 0) = false):
    Calls Tryd.prog 70 #[.bool s, .slice A (digs q).length c, .int .i64 y, .bool false, .int .i64 P, .bool false] w fun e w' => Yr M E w e w' := by
  have b1 : blen q ≤ 96000 := by have := bl_bd (m := (q : Int)) (k := 3000) (by rw [Int.natAbs_natCast]; exact hl); rwa [Int.natAbs_natCast] at this
  obtain ⟨z, hz⟩ : ∃ z : Int, (blen q : Int) = z := ⟨_, rfl⟩
  obtain ⟨d, hd⟩ : ∃ d : Nat, blen q - p = d := ⟨_, rfl⟩
  rw [hd] at hM hE hlow
  have hzd : z - P = (d : Int) := by omega
  have hg : decide (0 < z - P) = true := decide_eq_true (by omega)
  have hg2 : decide (P < z) = true := decide_eq_true (by omega)
  obtain ⟨k, hk⟩ : ∃ k, q / 2 ^ d = k := ⟨_, rfl⟩
  obtain ⟨b, hbk⟩ : ∃ b, k * 2 ^ d = b := ⟨_, rfl⟩
  have hc := cmpi_low hk hbk
  obtain ⟨j, hj⟩ : ∃ j, cmpi b q = j := ⟨_, rfl⟩
  rw [hj] at hc
  rw [hlow] at hc
  have hkl := digs_len_mono _ _ (hk ▸ Nat.div_le_self q (2 ^ d) : k ≤ q)
  have hkl1 := digs_add_len k 1
  have l1 : (digs 1).length = 1 := by rw [digs_one (by omega) (by omega)]; rfl
  have hbl := digs_len_mono _ _ (show b ≤ q by rw [← hbk, ← hk]; exact Nat.div_mul_le_self q (2 ^ d))
  rw [hk] at hM hE
  have HZ := Lib.hid hz
  have HZD := Lib.hid hzd
  have HD := Lib.hid (show d ≤ 100000 by omega)
  have LX := Lib.hid hl
  have LK := Lib.hid (show (digs k).length ≤ 3001 by omega)
  have LK1 := Lib.hid (show (digs (k + 1)).length ≤ 3002 by omega)
  have LB := Lib.hid (show (digs b).length ≤ 3001 by omega)
  have HK := Lib.hid hk
  have HB := Lib.hid hbk
  have HJ := Lib.hid hj
  have HM := Lib.hid hM
  have HE := Lib.hid (show nx (sg s (k)) (y + (z - P)) = E by rw [hzd]; exact hE)
  have SZ := Lib.hid (show sg s (val (digs (k))) = sg s (k) by rw [val_digs])
  have LZ := Lib.hid (show (digs (sg s (k)).natAbs).length ≤ 100000 by rw [sg_abs]; omega)
  have YB := Lib.hid (show -1000000 ≤ y + (z - P) ∧ y + (z - P) ≤ 1000000 by omega)
  have z0 : 0 ≤ z := by omega
  have z1 : z ≤ 96000 := by omega
  have pp0 : 0 ≤ P := by omega
  have pp1 : P ≤ 400 := by omega
  have zp0 : 0 ≤ z - P := by omega
  have L0 := Lib.hid ((live_start w).add h)
  clear h hl hP hb hM hE b1 hz hd hzd hk hbk hj hkl hkl1 l1 hbl p4 hlow
  go_enter Tryd.func70, Tryd.ntmps70
  go_wp2_with fail
  obtain ⟨v1, hW, hb, Rr_1⟩ := new1 w (.cells #[.bool false, .slice none 0 0, .int .i64 0] 26)
  rw [← hW]
  have L1 := ls L0 hb
  have Gr := gl0 L0.out
  clear hW hb
  refine (rbits_z (L1.out.get (A := A) (c := c) (xs := digs q) (by simp)) (Nat.le_trans LX.out (by omega)) HZ.out).mono ?_
  rintro e w2 ⟨rfl, hb⟩
  have L2 := ls L1 hb
  have Rr_2 := co Rr_1 hb
  clear hb 
  go_wp2_with fail
  refine (rshr_i (L2.out.get (A := A) (c := c) (xs := digs q) (by simp)) (Nat.le_trans LX.out (by omega)) HZD.out (Nat.le_trans HD.out (by omega)) HK.out).mono ?_
  rintro e w3 ⟨A3, c3, rfl, hd, hb⟩
  have L3 := la L2 hb hd
  have Rr_3 := co Rr_2 hb
  clear hb hd
  go_wp2_with fail
  refine (rshl_i (L3.out.get (A := A3) (c := c3) (xs := digs k) (by simp)) (Nat.le_trans LK.out (by omega)) HZD.out HD.out HB.out).mono ?_
  rintro e w4 ⟨A4, c4, rfl, hd, hb⟩
  have L4 := la L3 hb hd
  have Rr_4 := co Rr_3 hb
  clear hb hd
  go_wp2_with fail
  refine (rcmp_i (L4.out.get (A := A4) (c := c4) (xs := digs b) (by simp)) (L4.out.get (A := A) (c := c) (xs := digs q) (by simp)) (Nat.le_trans LB.out (by omega)) (Nat.le_trans LX.out (by omega)) HJ.out).mono ?_
  rintro e w5 ⟨rfl, rfl⟩
  go_wp2_with fail
  refine (rnorm_z (z := sg s k) (L4.out.get (A := A3) (c := c3) (xs := digs k) (by simp)) (Nat.le_trans LK.out (by omega)) SZ.out LZ.out YB.out.1 YB.out.2 HM.out HE.out).mono ?_
  rintro e w6 ⟨A6, c6, rfl, hd, hb⟩
  have L6 := la L4 hb hd
  have Rr_6 := co Rr_4 hb
  clear hb hd
  obtain ⟨fr0, zr0, fr1, zr1, fr2, zr2, xr⟩ := ly3 Rr_6.out
  go_wp2
  refine bodyPost_ret (v := .agg #[.bool (decide (M < 0)), .slice A6 (digs M.natAbs).length c6, .int .i64 E]) (by simp [results, Tryd.results70, go_sem, fr0, fr1, fr2]) rfl ?_
  
  refine ⟨A6, c6, rfl, ?_, ?_⟩
  · exact (fin3 L6.out Rr_6.out noint3 Gr).get (A := A6) (c := c6) (xs := digs M.natAbs) (by simp)
  · exact (fin3 L6.out Rr_6.out noint3 Gr).1

set_option maxHeartbeats 4000000 in
set_option maxRecDepth 100000 in
theorem r5cut_nla (A : Option Addr) (c : Nat) (s : Bool) (q : Nat) (y P : Int) (p : Nat) (M E : Int) (w : World) (h : Dg w A c (digs q)) (hl : (digs q).length ≤ 3000) (hP : (p : Int) = P) (p4 : p ≤ 400) (hb : p < blen q) (y0 : -900000 ≤ y) (y1 : y ≤ 900000) (hM : nm (sg s (q / 2 ^ (blen q - p) + 1)) = M) (hE : nx (sg s (q / 2 ^ (blen q - p) + 1)) (y + (blen q - p : Nat)) = E) (hlow : decide (q % 2 ^ (blen q - p) ≠ 0) = true):
    Calls Tryd.prog 70 #[.bool s, .slice A (digs q).length c, .int .i64 y, .bool false, .int .i64 P, .bool true] w fun e w' => Yr M E w e w' := by
  have b1 : blen q ≤ 96000 := by have := bl_bd (m := (q : Int)) (k := 3000) (by rw [Int.natAbs_natCast]; exact hl); rwa [Int.natAbs_natCast] at this
  obtain ⟨z, hz⟩ : ∃ z : Int, (blen q : Int) = z := ⟨_, rfl⟩
  obtain ⟨d, hd⟩ : ∃ d : Nat, blen q - p = d := ⟨_, rfl⟩
  rw [hd] at hM hE hlow
  have hzd : z - P = (d : Int) := by omega
  have hg : decide (0 < z - P) = true := decide_eq_true (by omega)
  have hg2 : decide (P < z) = true := decide_eq_true (by omega)
  obtain ⟨k, hk⟩ : ∃ k, q / 2 ^ d = k := ⟨_, rfl⟩
  obtain ⟨b, hbk⟩ : ∃ b, k * 2 ^ d = b := ⟨_, rfl⟩
  have hc := cmpi_low hk hbk
  obtain ⟨j, hj⟩ : ∃ j, cmpi b q = j := ⟨_, rfl⟩
  rw [hj] at hc
  rw [hlow] at hc
  have hkl := digs_len_mono _ _ (hk ▸ Nat.div_le_self q (2 ^ d) : k ≤ q)
  have hkl1 := digs_add_len k 1
  have l1 : (digs 1).length = 1 := by rw [digs_one (by omega) (by omega)]; rfl
  have hbl := digs_len_mono _ _ (show b ≤ q by rw [← hbk, ← hk]; exact Nat.div_mul_le_self q (2 ^ d))
  rw [hk] at hM hE
  have HZ := Lib.hid hz
  have HZD := Lib.hid hzd
  have HD := Lib.hid (show d ≤ 100000 by omega)
  have LX := Lib.hid hl
  have LK := Lib.hid (show (digs k).length ≤ 3001 by omega)
  have LK1 := Lib.hid (show (digs (k + 1)).length ≤ 3002 by omega)
  have LB := Lib.hid (show (digs b).length ≤ 3001 by omega)
  have HK := Lib.hid hk
  have HB := Lib.hid hbk
  have HJ := Lib.hid hj
  have HM := Lib.hid hM
  have HE := Lib.hid (show nx (sg s (k + 1)) (y + (z - P)) = E by rw [hzd]; exact hE)
  have SZ := Lib.hid (show sg s (val (digs (k + 1))) = sg s (k + 1) by rw [val_digs])
  have LZ := Lib.hid (show (digs (sg s (k + 1)).natAbs).length ≤ 100000 by rw [sg_abs]; omega)
  have YB := Lib.hid (show -1000000 ≤ y + (z - P) ∧ y + (z - P) ≤ 1000000 by omega)
  have z0 : 0 ≤ z := by omega
  have z1 : z ≤ 96000 := by omega
  have pp0 : 0 ≤ P := by omega
  have pp1 : P ≤ 400 := by omega
  have zp0 : 0 ≤ z - P := by omega
  have L0 := Lib.hid ((live_start w).add h)
  clear h hl hP hb hM hE b1 hz hd hzd hk hbk hj hkl hkl1 l1 hbl p4 hlow
  go_enter Tryd.func70, Tryd.ntmps70
  go_wp2_with fail
  obtain ⟨v1, hW, hb, Rr_1⟩ := new1 w (.cells #[.bool false, .slice none 0 0, .int .i64 0] 26)
  rw [← hW]
  have L1 := ls L0 hb
  have Gr := gl0 L0.out
  clear hW hb
  refine (rbits_z (L1.out.get (A := A) (c := c) (xs := digs q) (by simp)) (Nat.le_trans LX.out (by omega)) HZ.out).mono ?_
  rintro e w2 ⟨rfl, hb⟩
  have L2 := ls L1 hb
  have Rr_2 := co Rr_1 hb
  clear hb 
  go_wp2_with fail
  refine (rshr_i (L2.out.get (A := A) (c := c) (xs := digs q) (by simp)) (Nat.le_trans LX.out (by omega)) HZD.out (Nat.le_trans HD.out (by omega)) HK.out).mono ?_
  rintro e w3 ⟨A3, c3, rfl, hd, hb⟩
  have L3 := la L2 hb hd
  have Rr_3 := co Rr_2 hb
  clear hb hd
  go_wp2_with fail
  refine (rshl_i (L3.out.get (A := A3) (c := c3) (xs := digs k) (by simp)) (Nat.le_trans LK.out (by omega)) HZD.out HD.out HB.out).mono ?_
  rintro e w4 ⟨A4, c4, rfl, hd, hb⟩
  have L4 := la L3 hb hd
  have Rr_4 := co Rr_3 hb
  clear hb hd
  go_wp2_with fail
  refine (rcmp_i (L4.out.get (A := A4) (c := c4) (xs := digs b) (by simp)) (L4.out.get (A := A) (c := c) (xs := digs q) (by simp)) (Nat.le_trans LB.out (by omega)) (Nat.le_trans LX.out (by omega)) HJ.out).mono ?_
  rintro e w5 ⟨rfl, rfl⟩
  go_wp2_with fail
  obtain ⟨w6, hW, hb, Rone_6⟩ := new1 w4 (.cells #[.int .u32 1] 52)
  rw [← hW]
  have L6 := ls L4 hb
  have Rr_6 := co Rr_4 hb
  have Gone := gl0 L4.out
  have Nrone := nl0 Rr_4.out
  clear hW hb
  refine (radd1U (L6.out.get (A := A3) (c := c3) (xs := digs k) (by simp)) (Nat.le_trans LK.out (by omega)) Rone_6.out).mono ?_
  rintro e w7 ⟨A7, c7, rfl, hd, hb⟩
  have L7 := la L6 hb hd
  have Rr_7 := co Rr_6 hb
  have Rone_7 := co Rone_6 hb
  clear hb hd
  go_wp2_with fail
  refine (rnorm_z (z := sg s (k + 1)) (L7.out.get (A := A7) (c := c7) (xs := digs (k + 1)) (by simp)) (Nat.le_trans LK1.out (by omega)) SZ.out LZ.out YB.out.1 YB.out.2 HM.out HE.out).mono ?_
  rintro e w8 ⟨A8, c8, rfl, hd, hb⟩
  have L8 := la L7 hb hd
  have Rr_8 := co Rr_7 hb
  have Rone_8 := co Rone_7 hb
  clear hb hd
  obtain ⟨fr0, zr0, fr1, zr1, fr2, zr2, xr⟩ := ly3 Rr_8.out
  go_wp2
  refine bodyPost_ret (v := .agg #[.bool (decide (M < 0)), .slice A8 (digs M.natAbs).length c8, .int .i64 E]) (by simp [results, Tryd.results70, go_sem, fr0, fr1, fr2]) rfl ?_
  
  refine ⟨A8, c8, rfl, ?_, ?_⟩
  · exact (fin3 L8.out Rr_8.out noint3 Gr).get (A := A8) (c := c8) (xs := digs M.natAbs) (by simp)
  · exact (fin3 L8.out Rr_8.out noint3 Gr).1

set_option maxHeartbeats 4000000 in
set_option maxRecDepth 100000 in
theorem r5cut_nlf (A : Option Addr) (c : Nat) (s : Bool) (q : Nat) (y P : Int) (p : Nat) (M E : Int) (w : World) (h : Dg w A c (digs q)) (hl : (digs q).length ≤ 3000) (hP : (p : Int) = P) (p4 : p ≤ 400) (hb : p < blen q) (y0 : -900000 ≤ y) (y1 : y ≤ 900000) (hM : nm (sg s (q / 2 ^ (blen q - p))) = M) (hE : nx (sg s (q / 2 ^ (blen q - p))) (y + (blen q - p : Nat)) = E) (hlow : decide (q % 2 ^ (blen q - p) ≠ 0) = true):
    Calls Tryd.prog 70 #[.bool s, .slice A (digs q).length c, .int .i64 y, .bool false, .int .i64 P, .bool false] w fun e w' => Yr M E w e w' := by
  have b1 : blen q ≤ 96000 := by have := bl_bd (m := (q : Int)) (k := 3000) (by rw [Int.natAbs_natCast]; exact hl); rwa [Int.natAbs_natCast] at this
  obtain ⟨z, hz⟩ : ∃ z : Int, (blen q : Int) = z := ⟨_, rfl⟩
  obtain ⟨d, hd⟩ : ∃ d : Nat, blen q - p = d := ⟨_, rfl⟩
  rw [hd] at hM hE hlow
  have hzd : z - P = (d : Int) := by omega
  have hg : decide (0 < z - P) = true := decide_eq_true (by omega)
  have hg2 : decide (P < z) = true := decide_eq_true (by omega)
  obtain ⟨k, hk⟩ : ∃ k, q / 2 ^ d = k := ⟨_, rfl⟩
  obtain ⟨b, hbk⟩ : ∃ b, k * 2 ^ d = b := ⟨_, rfl⟩
  have hc := cmpi_low hk hbk
  obtain ⟨j, hj⟩ : ∃ j, cmpi b q = j := ⟨_, rfl⟩
  rw [hj] at hc
  rw [hlow] at hc
  have hkl := digs_len_mono _ _ (hk ▸ Nat.div_le_self q (2 ^ d) : k ≤ q)
  have hkl1 := digs_add_len k 1
  have l1 : (digs 1).length = 1 := by rw [digs_one (by omega) (by omega)]; rfl
  have hbl := digs_len_mono _ _ (show b ≤ q by rw [← hbk, ← hk]; exact Nat.div_mul_le_self q (2 ^ d))
  rw [hk] at hM hE
  have HZ := Lib.hid hz
  have HZD := Lib.hid hzd
  have HD := Lib.hid (show d ≤ 100000 by omega)
  have LX := Lib.hid hl
  have LK := Lib.hid (show (digs k).length ≤ 3001 by omega)
  have LK1 := Lib.hid (show (digs (k + 1)).length ≤ 3002 by omega)
  have LB := Lib.hid (show (digs b).length ≤ 3001 by omega)
  have HK := Lib.hid hk
  have HB := Lib.hid hbk
  have HJ := Lib.hid hj
  have HM := Lib.hid hM
  have HE := Lib.hid (show nx (sg s (k)) (y + (z - P)) = E by rw [hzd]; exact hE)
  have SZ := Lib.hid (show sg s (val (digs (k))) = sg s (k) by rw [val_digs])
  have LZ := Lib.hid (show (digs (sg s (k)).natAbs).length ≤ 100000 by rw [sg_abs]; omega)
  have YB := Lib.hid (show -1000000 ≤ y + (z - P) ∧ y + (z - P) ≤ 1000000 by omega)
  have z0 : 0 ≤ z := by omega
  have z1 : z ≤ 96000 := by omega
  have pp0 : 0 ≤ P := by omega
  have pp1 : P ≤ 400 := by omega
  have zp0 : 0 ≤ z - P := by omega
  have L0 := Lib.hid ((live_start w).add h)
  clear h hl hP hb hM hE b1 hz hd hzd hk hbk hj hkl hkl1 l1 hbl p4 hlow
  go_enter Tryd.func70, Tryd.ntmps70
  go_wp2_with fail
  obtain ⟨v1, hW, hb, Rr_1⟩ := new1 w (.cells #[.bool false, .slice none 0 0, .int .i64 0] 26)
  rw [← hW]
  have L1 := ls L0 hb
  have Gr := gl0 L0.out
  clear hW hb
  refine (rbits_z (L1.out.get (A := A) (c := c) (xs := digs q) (by simp)) (Nat.le_trans LX.out (by omega)) HZ.out).mono ?_
  rintro e w2 ⟨rfl, hb⟩
  have L2 := ls L1 hb
  have Rr_2 := co Rr_1 hb
  clear hb 
  go_wp2_with fail
  refine (rshr_i (L2.out.get (A := A) (c := c) (xs := digs q) (by simp)) (Nat.le_trans LX.out (by omega)) HZD.out (Nat.le_trans HD.out (by omega)) HK.out).mono ?_
  rintro e w3 ⟨A3, c3, rfl, hd, hb⟩
  have L3 := la L2 hb hd
  have Rr_3 := co Rr_2 hb
  clear hb hd
  go_wp2_with fail
  refine (rshl_i (L3.out.get (A := A3) (c := c3) (xs := digs k) (by simp)) (Nat.le_trans LK.out (by omega)) HZD.out HD.out HB.out).mono ?_
  rintro e w4 ⟨A4, c4, rfl, hd, hb⟩
  have L4 := la L3 hb hd
  have Rr_4 := co Rr_3 hb
  clear hb hd
  go_wp2_with fail
  refine (rcmp_i (L4.out.get (A := A4) (c := c4) (xs := digs b) (by simp)) (L4.out.get (A := A) (c := c) (xs := digs q) (by simp)) (Nat.le_trans LB.out (by omega)) (Nat.le_trans LX.out (by omega)) HJ.out).mono ?_
  rintro e w5 ⟨rfl, rfl⟩
  go_wp2_with fail
  refine (rnorm_z (z := sg s k) (L4.out.get (A := A3) (c := c3) (xs := digs k) (by simp)) (Nat.le_trans LK.out (by omega)) SZ.out LZ.out YB.out.1 YB.out.2 HM.out HE.out).mono ?_
  rintro e w6 ⟨A6, c6, rfl, hd, hb⟩
  have L6 := la L4 hb hd
  have Rr_6 := co Rr_4 hb
  clear hb hd
  obtain ⟨fr0, zr0, fr1, zr1, fr2, zr2, xr⟩ := ly3 Rr_6.out
  go_wp2
  refine bodyPost_ret (v := .agg #[.bool (decide (M < 0)), .slice A6 (digs M.natAbs).length c6, .int .i64 E]) (by simp [results, Tryd.results70, go_sem, fr0, fr1, fr2]) rfl ?_
  
  refine ⟨A6, c6, rfl, ?_, ?_⟩
  · exact (fin3 L6.out Rr_6.out noint3 Gr).get (A := A6) (c := c6) (xs := digs M.natAbs) (by simp)
  · exact (fin3 L6.out Rr_6.out noint3 Gr).1

set_option maxHeartbeats 4000000 in
set_option maxRecDepth 100000 in
theorem r5cut_mla (A : Option Addr) (c : Nat) (s : Bool) (q : Nat) (y P : Int) (p : Nat) (M E : Int) (w : World) (h : Dg w A c (digs q)) (hl : (digs q).length ≤ 3000) (hP : (p : Int) = P) (p4 : p ≤ 400) (hb : p < blen q) (y0 : -900000 ≤ y) (y1 : y ≤ 900000) (hM : nm (sg s (q / 2 ^ (blen q - p) + 1)) = M) (hE : nx (sg s (q / 2 ^ (blen q - p) + 1)) (y + (blen q - p : Nat)) = E):
    Calls Tryd.prog 70 #[.bool s, .slice A (digs q).length c, .int .i64 y, .bool true, .int .i64 P, .bool true] w fun e w' => Yr M E w e w' := by
  have b1 : blen q ≤ 96000 := by have := bl_bd (m := (q : Int)) (k := 3000) (by rw [Int.natAbs_natCast]; exact hl); rwa [Int.natAbs_natCast] at this
  obtain ⟨z, hz⟩ : ∃ z : Int, (blen q : Int) = z := ⟨_, rfl⟩
  obtain ⟨d, hd⟩ : ∃ d : Nat, blen q - p = d := ⟨_, rfl⟩
  rw [hd] at hM hE
  have hzd : z - P = (d : Int) := by omega
  have hg : decide (0 < z - P) = true := decide_eq_true (by omega)
  have hg2 : decide (P < z) = true := decide_eq_true (by omega)
  obtain ⟨k, hk⟩ : ∃ k, q / 2 ^ d = k := ⟨_, rfl⟩
  obtain ⟨b, hbk⟩ : ∃ b, k * 2 ^ d = b := ⟨_, rfl⟩
  have hc := cmpi_low hk hbk
  obtain ⟨j, hj⟩ : ∃ j, cmpi b q = j := ⟨_, rfl⟩
  rw [hj] at hc
  clear hc
  have hkl := digs_len_mono _ _ (hk ▸ Nat.div_le_self q (2 ^ d) : k ≤ q)
  have hkl1 := digs_add_len k 1
  have l1 : (digs 1).length = 1 := by rw [digs_one (by omega) (by omega)]; rfl
  have hbl := digs_len_mono _ _ (show b ≤ q by rw [← hbk, ← hk]; exact Nat.div_mul_le_self q (2 ^ d))
  rw [hk] at hM hE
  have HZ := Lib.hid hz
  have HZD := Lib.hid hzd
  have HD := Lib.hid (show d ≤ 100000 by omega)
  have LX := Lib.hid hl
  have LK := Lib.hid (show (digs k).length ≤ 3001 by omega)
  have LK1 := Lib.hid (show (digs (k + 1)).length ≤ 3002 by omega)
  have LB := Lib.hid (show (digs b).length ≤ 3001 by omega)
  have HK := Lib.hid hk
  have HB := Lib.hid hbk
  have HJ := Lib.hid hj
  have HM := Lib.hid hM
  have HE := Lib.hid (show nx (sg s (k + 1)) (y + (z - P)) = E by rw [hzd]; exact hE)
  have SZ := Lib.hid (show sg s (val (digs (k + 1))) = sg s (k + 1) by rw [val_digs])
  have LZ := Lib.hid (show (digs (sg s (k + 1)).natAbs).length ≤ 100000 by rw [sg_abs]; omega)
  have YB := Lib.hid (show -1000000 ≤ y + (z - P) ∧ y + (z - P) ≤ 1000000 by omega)
  have z0 : 0 ≤ z := by omega
  have z1 : z ≤ 96000 := by omega
  have pp0 : 0 ≤ P := by omega
  have pp1 : P ≤ 400 := by omega
  have zp0 : 0 ≤ z - P := by omega
  have L0 := Lib.hid ((live_start w).add h)
  clear h hl hP hb hM hE b1 hz hd hzd hk hbk hj hkl hkl1 l1 hbl p4
  go_enter Tryd.func70, Tryd.ntmps70
  go_wp2_with fail
  obtain ⟨v1, hW, hb, Rr_1⟩ := new1 w (.cells #[.bool false, .slice none 0 0, .int .i64 0] 26)
  rw [← hW]
  have L1 := ls L0 hb
  have Gr := gl0 L0.out
  clear hW hb
  refine (rbits_z (L1.out.get (A := A) (c := c) (xs := digs q) (by simp)) (Nat.le_trans LX.out (by omega)) HZ.out).mono ?_
  rintro e w2 ⟨rfl, hb⟩
  have L2 := ls L1 hb
  have Rr_2 := co Rr_1 hb
  clear hb 
  go_wp2_with fail
  refine (rshr_i (L2.out.get (A := A) (c := c) (xs := digs q) (by simp)) (Nat.le_trans LX.out (by omega)) HZD.out (Nat.le_trans HD.out (by omega)) HK.out).mono ?_
  rintro e w3 ⟨A3, c3, rfl, hd, hb⟩
  have L3 := la L2 hb hd
  have Rr_3 := co Rr_2 hb
  clear hb hd
  go_wp2_with fail
  refine (rshl_i (L3.out.get (A := A3) (c := c3) (xs := digs k) (by simp)) (Nat.le_trans LK.out (by omega)) HZD.out HD.out HB.out).mono ?_
  rintro e w4 ⟨A4, c4, rfl, hd, hb⟩
  have L4 := la L3 hb hd
  have Rr_4 := co Rr_3 hb
  clear hb hd
  go_wp2_with fail
  obtain ⟨w5, hW, hb, Rone_5⟩ := new1 w4 (.cells #[.int .u32 1] 52)
  rw [← hW]
  have L5 := ls L4 hb
  have Rr_5 := co Rr_4 hb
  have Gone := gl0 L4.out
  have Nrone := nl0 Rr_4.out
  clear hW hb
  refine (radd1U (L5.out.get (A := A3) (c := c3) (xs := digs k) (by simp)) (Nat.le_trans LK.out (by omega)) Rone_5.out).mono ?_
  rintro e w6 ⟨A6, c6, rfl, hd, hb⟩
  have L6 := la L5 hb hd
  have Rr_6 := co Rr_5 hb
  have Rone_6 := co Rone_5 hb
  clear hb hd
  go_wp2_with fail
  refine (rnorm_z (z := sg s (k + 1)) (L6.out.get (A := A6) (c := c6) (xs := digs (k + 1)) (by simp)) (Nat.le_trans LK1.out (by omega)) SZ.out LZ.out YB.out.1 YB.out.2 HM.out HE.out).mono ?_
  rintro e w7 ⟨A7, c7, rfl, hd, hb⟩
  have L7 := la L6 hb hd
  have Rr_7 := co Rr_6 hb
  have Rone_7 := co Rone_6 hb
  clear hb hd
  obtain ⟨fr0, zr0, fr1, zr1, fr2, zr2, xr⟩ := ly3 Rr_7.out
  go_wp2
  refine bodyPost_ret (v := .agg #[.bool (decide (M < 0)), .slice A7 (digs M.natAbs).length c7, .int .i64 E]) (by simp [results, Tryd.results70, go_sem, fr0, fr1, fr2]) rfl ?_
  
  refine ⟨A7, c7, rfl, ?_, ?_⟩
  · exact (fin3 L7.out Rr_7.out noint3 Gr).get (A := A7) (c := c7) (xs := digs M.natAbs) (by simp)
  · exact (fin3 L7.out Rr_7.out noint3 Gr).1

set_option maxHeartbeats 4000000 in
set_option maxRecDepth 100000 in
theorem r5cut_mlf (A : Option Addr) (c : Nat) (s : Bool) (q : Nat) (y P : Int) (p : Nat) (M E : Int) (w : World) (h : Dg w A c (digs q)) (hl : (digs q).length ≤ 3000) (hP : (p : Int) = P) (p4 : p ≤ 400) (hb : p < blen q) (y0 : -900000 ≤ y) (y1 : y ≤ 900000) (hM : nm (sg s (q / 2 ^ (blen q - p))) = M) (hE : nx (sg s (q / 2 ^ (blen q - p))) (y + (blen q - p : Nat)) = E):
    Calls Tryd.prog 70 #[.bool s, .slice A (digs q).length c, .int .i64 y, .bool true, .int .i64 P, .bool false] w fun e w' => Yr M E w e w' := by
  have b1 : blen q ≤ 96000 := by have := bl_bd (m := (q : Int)) (k := 3000) (by rw [Int.natAbs_natCast]; exact hl); rwa [Int.natAbs_natCast] at this
  obtain ⟨z, hz⟩ : ∃ z : Int, (blen q : Int) = z := ⟨_, rfl⟩
  obtain ⟨d, hd⟩ : ∃ d : Nat, blen q - p = d := ⟨_, rfl⟩
  rw [hd] at hM hE
  have hzd : z - P = (d : Int) := by omega
  have hg : decide (0 < z - P) = true := decide_eq_true (by omega)
  have hg2 : decide (P < z) = true := decide_eq_true (by omega)
  obtain ⟨k, hk⟩ : ∃ k, q / 2 ^ d = k := ⟨_, rfl⟩
  obtain ⟨b, hbk⟩ : ∃ b, k * 2 ^ d = b := ⟨_, rfl⟩
  have hc := cmpi_low hk hbk
  obtain ⟨j, hj⟩ : ∃ j, cmpi b q = j := ⟨_, rfl⟩
  rw [hj] at hc
  clear hc
  have hkl := digs_len_mono _ _ (hk ▸ Nat.div_le_self q (2 ^ d) : k ≤ q)
  have hkl1 := digs_add_len k 1
  have l1 : (digs 1).length = 1 := by rw [digs_one (by omega) (by omega)]; rfl
  have hbl := digs_len_mono _ _ (show b ≤ q by rw [← hbk, ← hk]; exact Nat.div_mul_le_self q (2 ^ d))
  rw [hk] at hM hE
  have HZ := Lib.hid hz
  have HZD := Lib.hid hzd
  have HD := Lib.hid (show d ≤ 100000 by omega)
  have LX := Lib.hid hl
  have LK := Lib.hid (show (digs k).length ≤ 3001 by omega)
  have LK1 := Lib.hid (show (digs (k + 1)).length ≤ 3002 by omega)
  have LB := Lib.hid (show (digs b).length ≤ 3001 by omega)
  have HK := Lib.hid hk
  have HB := Lib.hid hbk
  have HJ := Lib.hid hj
  have HM := Lib.hid hM
  have HE := Lib.hid (show nx (sg s (k)) (y + (z - P)) = E by rw [hzd]; exact hE)
  have SZ := Lib.hid (show sg s (val (digs (k))) = sg s (k) by rw [val_digs])
  have LZ := Lib.hid (show (digs (sg s (k)).natAbs).length ≤ 100000 by rw [sg_abs]; omega)
  have YB := Lib.hid (show -1000000 ≤ y + (z - P) ∧ y + (z - P) ≤ 1000000 by omega)
  have z0 : 0 ≤ z := by omega
  have z1 : z ≤ 96000 := by omega
  have pp0 : 0 ≤ P := by omega
  have pp1 : P ≤ 400 := by omega
  have zp0 : 0 ≤ z - P := by omega
  have L0 := Lib.hid ((live_start w).add h)
  clear h hl hP hb hM hE b1 hz hd hzd hk hbk hj hkl hkl1 l1 hbl p4
  go_enter Tryd.func70, Tryd.ntmps70
  go_wp2_with fail
  obtain ⟨v1, hW, hb, Rr_1⟩ := new1 w (.cells #[.bool false, .slice none 0 0, .int .i64 0] 26)
  rw [← hW]
  have L1 := ls L0 hb
  have Gr := gl0 L0.out
  clear hW hb
  refine (rbits_z (L1.out.get (A := A) (c := c) (xs := digs q) (by simp)) (Nat.le_trans LX.out (by omega)) HZ.out).mono ?_
  rintro e w2 ⟨rfl, hb⟩
  have L2 := ls L1 hb
  have Rr_2 := co Rr_1 hb
  clear hb 
  go_wp2_with fail
  refine (rshr_i (L2.out.get (A := A) (c := c) (xs := digs q) (by simp)) (Nat.le_trans LX.out (by omega)) HZD.out (Nat.le_trans HD.out (by omega)) HK.out).mono ?_
  rintro e w3 ⟨A3, c3, rfl, hd, hb⟩
  have L3 := la L2 hb hd
  have Rr_3 := co Rr_2 hb
  clear hb hd
  go_wp2_with fail
  refine (rshl_i (L3.out.get (A := A3) (c := c3) (xs := digs k) (by simp)) (Nat.le_trans LK.out (by omega)) HZD.out HD.out HB.out).mono ?_
  rintro e w4 ⟨A4, c4, rfl, hd, hb⟩
  have L4 := la L3 hb hd
  have Rr_4 := co Rr_3 hb
  clear hb hd
  go_wp2_with fail
  refine (rnorm_z (z := sg s k) (L4.out.get (A := A3) (c := c3) (xs := digs k) (by simp)) (Nat.le_trans LK.out (by omega)) SZ.out LZ.out YB.out.1 YB.out.2 HM.out HE.out).mono ?_
  rintro e w5 ⟨A5, c5, rfl, hd, hb⟩
  have L5 := la L4 hb hd
  have Rr_5 := co Rr_4 hb
  clear hb hd
  obtain ⟨fr0, zr0, fr1, zr1, fr2, zr2, xr⟩ := ly3 Rr_5.out
  go_wp2
  refine bodyPost_ret (v := .agg #[.bool (decide (M < 0)), .slice A5 (digs M.natAbs).length c5, .int .i64 E]) (by simp [results, Tryd.results70, go_sem, fr0, fr1, fr2]) rfl ?_
  
  refine ⟨A5, c5, rfl, ?_, ?_⟩
  · exact (fin3 L5.out Rr_5.out noint3 Gr).get (A := A5) (c := c5) (xs := digs M.natAbs) (by simp)
  · exact (fin3 L5.out Rr_5.out noint3 Gr).1

set_option maxHeartbeats 4000000 in
set_option maxRecDepth 100000 in
theorem r5cut_0 (A : Option Addr) (c : Nat) (s away : Bool) (q : Nat) (y P : Int) (p : Nat) (M E : Int) (w : World) (h : Dg w A c (digs q)) (hl : (digs q).length ≤ 3000) (hP : (p : Int) = P) (p4 : p ≤ 400) (hb : blen q ≤ p) (y0 : -900000 ≤ y) (y1 : y ≤ 900000) (hM : nm (sg s q) = M) (hE : nx (sg s q) y = E):
    Calls Tryd.prog 70 #[.bool s, .slice A (digs q).length c, .int .i64 y, .bool false, .int .i64 P, .bool away] w fun e w' => Yr M E w e w' := by
  obtain ⟨z, hz⟩ : ∃ z : Int, (blen q : Int) = z := ⟨_, rfl⟩
  have hg : decide (0 < z - P) = false := decide_eq_false (by omega)
  have hg2 : decide (P < z) = false := decide_eq_false (by omega)
  have HZ := Lib.hid hz
  have LX := Lib.hid hl
  have HM := Lib.hid hM
  have HE := Lib.hid hE
  have SZ := Lib.hid (show sg s (val (digs q)) = sg s q by rw [val_digs])
  have LZ := Lib.hid (show (digs (sg s q).natAbs).length ≤ 100000 by rw [sg_abs]; omega)
  have YB := Lib.hid (show -1000000 ≤ y ∧ y ≤ 1000000 by omega)
  have z0 : 0 ≤ z := by omega
  have z1 : z ≤ 400 := by omega
  have pp0 : 0 ≤ P := by omega
  have pp1 : P ≤ 400 := by omega
  have L0 := Lib.hid ((live_start w).add h)
  clear h hl hP hb hM hE hz p4 y0 y1
  go_enter Tryd.func70, Tryd.ntmps70
  go_wp2_with fail
  obtain ⟨v1, hW, hb, Rr_1⟩ := new1 w (.cells #[.bool false, .slice none 0 0, .int .i64 0] 26)
  rw [← hW]
  have L1 := ls L0 hb
  have Gr := gl0 L0.out
  clear hW hb
  refine (rbits_z (L1.out.get (A := A) (c := c) (xs := digs q) (by simp)) (Nat.le_trans LX.out (by omega)) HZ.out).mono ?_
  rintro e w2 ⟨rfl, hb⟩
  have L2 := ls L1 hb
  have Rr_2 := co Rr_1 hb
  clear hb 
  go_wp2_with fail
  refine (rnorm_z (z := sg s q) (L2.out.get (A := A) (c := c) (xs := digs q) (by simp)) (Nat.le_trans LX.out (by omega)) SZ.out LZ.out YB.out.1 YB.out.2 HM.out HE.out).mono ?_
  rintro e w3 ⟨A3, c3, rfl, hd, hb⟩
  have L3 := la L2 hb hd
  have Rr_3 := co Rr_2 hb
  clear hb hd
  obtain ⟨fr0, zr0, fr1, zr1, fr2, zr2, xr⟩ := ly3 Rr_3.out
  go_wp2
  refine bodyPost_ret (v := .agg #[.bool (decide (M < 0)), .slice A3 (digs M.natAbs).length c3, .int .i64 E]) (by simp [results, Tryd.results70, go_sem, fr0, fr1, fr2]) rfl ?_
  
  refine ⟨A3, c3, rfl, ?_, ?_⟩
  · exact (fin3 L3.out Rr_3.out noint3 Gr).get (A := A3) (c := c3) (xs := digs M.natAbs) (by simp)
  · exact (fin3 L3.out Rr_3.out noint3 Gr).1

theorem r5cut_any {A : Option Addr} {c : Nat} {s more away : Bool} {q : Nat} {y P : Int} {p : Nat} {M E : Int} {w : World} (h : Dg w A c (digs q)) (hl : (digs q).length ≤ 3000) (hP : (p : Int) = P) (p4 : p ≤ 400) (hb : p < blen q ∨ more = false ∧ blen q ≤ p) (y0 : -900000 ≤ y) (y1 : y ≤ 900000) (hM : nm (sg s (kept q p more away)) = M) (hE : nx (sg s (kept q p more away)) (y + (blen q - p : Nat)) = E) :
    Calls Tryd.prog 70 #[.bool s, .slice A (digs q).length c, .int .i64 y, .bool more, .int .i64 P, .bool away] w fun e w' => Yr M E w e w' := by
  rcases hb with hb | ⟨rfl, hb⟩
  · unfold kept at hM hE
    cases more
    · rcases hlow : decide (q % 2 ^ (blen q - p) ≠ 0) with _ | _
      · rw [hlow] at hM hE
        cases away
        · exact r5cut_nnf A c s q y P p M E w h hl hP p4 hb y0 y1 (by simpa using hM) (by simpa using hE) hlow
        · exact r5cut_nna A c s q y P p M E w h hl hP p4 hb y0 y1 (by simpa using hM) (by simpa using hE) hlow
      · rw [hlow] at hM hE
        cases away
        · exact r5cut_nlf A c s q y P p M E w h hl hP p4 hb y0 y1 (by simpa using hM) (by simpa using hE) hlow
        · exact r5cut_nla A c s q y P p M E w h hl hP p4 hb y0 y1 (by simpa using hM) (by simpa using hE) hlow
    · cases away
      · exact r5cut_mlf A c s q y P p M E w h hl hP p4 hb y0 y1 (by simpa using hM) (by simpa using hE)
      · exact r5cut_mla A c s q y P p M E w h hl hP p4 hb y0 y1 (by simpa using hM) (by simpa using hE)
  · rw [kept_small hb] at hM hE
    exact r5cut_0 A c s away q y P p M E w h hl hP p4 hb y0 y1 hM (by rw [show blen q - p = 0 by omega] at hE; simpa using hE)
theorem r5cut_f {A : Option Addr} {c : Nat} {s away : Bool} {q : Nat} {y P : Int} {p : Nat} {M E : Int} {w : World} (h : Dg w A c (digs q)) (hl : (digs q).length ≤ 3000) (hP : (p : Int) = P) (p4 : p ≤ 400) (y0 : -900000 ≤ y) (y1 : y ≤ 900000) (hM : nm (sg s (kept q p false away)) = M) (hE : nx (sg s (kept q p false away)) (y + (blen q - p : Nat)) = E) :
    Calls Tryd.prog 70 #[.bool s, .slice A (digs q).length c, .int .i64 y, .bool false, .int .i64 P, .bool away] w fun e w' => Yr M E w e w' :=
  r5cut_any h hl hP p4 ((Nat.lt_or_ge p (blen q)).imp id fun h => ⟨rfl, h⟩) y0 y1 hM hE

set_option maxHeartbeats 4000000 in
set_option maxRecDepth 100000 in
theorem r5round_ (A : Option Addr) (c : Nat) (m x P M E : Int) (up : Bool) (w : World) (h : Dg w A c (digs m.natAbs)) (hl : (digs m.natAbs).length ≤ 100) (r1 : Rt m x) {p : Nat} (hP : (p : Int) = P) (p2 : 2 ≤ p) (p4 : p ≤ 400) (hM : nm (sg (decide (m < 0)) (kept m.natAbs p false (up != decide (m < 0)))) = M) (hE : nx (sg (decide (m < 0)) (kept m.natAbs p false (up != decide (m < 0)))) (x + (blen m.natAbs - p : Nat)) = E) {K F V : Int} (hq : tot M E = (K, F, V)):
    Calls Tryd.prog 32 #[.agg #[.bool (decide (m < 0)), .slice A (digs m.natAbs).length c, .int .i64 x], .int .i64 P, .bool up] w fun e w' => Ye K F V w e w' := by
  have lx := Lib.hid hl
  have HR1 := Lib.hid r1
  have HPR := Lib.hid (precB_in (P := P) (by omega) (by omega))
  have HP2 := Lib.hid hP
  have HP4 := Lib.hid p4
  have HQ := Lib.hid hq
  have XB := Lib.hid (show -900000 ≤ x ∧ x ≤ 900000 by have := r1.2; omega)
  obtain ⟨t, ht⟩ : ∃ t, (up != decide (m < 0)) = t := ⟨_, rfl⟩
  rw [ht] at hM hE
  have HT2 := Lib.hid ht
  have HM := Lib.hid hM
  have HE := Lib.hid hE
  have kl := digs_len_mono _ _ (kept_le m.natAbs p false t)
  have kl1 := digs_add_len m.natAbs 1
  have l1 : (digs 1).length = 1 := by rw [digs_one (by omega) (by omega)]; rfl
  have b1 : blen m.natAbs ≤ 3200 := bl_bd (k := 100) hl
  have BE := nx_bdU (z := sg (decide (m < 0)) (kept m.natAbs p false t)) (y := x + (blen m.natAbs - p : Nat)) (by rw [sg_abs]; omega) (by have := r1.2; omega) (by have := r1.2; omega)
  rw [hE] at BE
  have BE := Lib.hid BE
  have LM := nm_len (sg (decide (m < 0)) (kept m.natAbs p false t))
  rw [hM, sg_abs] at LM
  have LM := Lib.hid (show (digs M.natAbs).length ≤ 100000 by omega)
  have L0 := Lib.hid ((live_start w).add h)
  clear h hl r1 hP p2 p4 hM hE hq ht kl kl1 l1 b1
  go_enter Tryd.func32, Tryd.ntmps32
  go_wp2_with fail
  obtain ⟨v1, hW, hb, Rx_1, Rr_1⟩ := new2 w (.cells #[.bool (decide (m < 0)), .slice A (digs m.natAbs).length c, .int .i64 x] 26) (.cells #[.bool false, .slice none 0 0, .int .i64 0] 26)
  rw [← hW]
  have L1 := ls L0 hb
  have Gx := gl0 L0.out
  have Gr := gl1 L0.out
  have Nxr : w.heap.size < w.heap.size + 1 := by omega
  clear hW hb
  refine (r5right_t (L1.out.get (A := A) (c := c) (xs := digs m.natAbs) (by simp)) (Nat.le_trans lx.out (by omega)) HR1.out).mono ?_
  rintro e w2 ⟨rfl, hb⟩
  have L2 := ls L1 hb
  have Rx_2 := co Rx_1 hb
  have Rr_2 := co Rr_1 hb
  clear hb 
  go_wp2_with fail
  refine (r5prec P _ HPR.out).mono ?_
  rintro e w3 ⟨rfl, rfl⟩
  have HT3 : (!(up == decide (m < 0))) = t := HT2.out
  obtain ⟨fx0, zx0, fx1, zx1, fx2, zx2, xx⟩ := ly3 Rx_2.out
  go_wp2_with fail
  refine (r5cut_f (q := m.natAbs) (L2.out.get (A := A) (c := c) (xs := digs m.natAbs) (by simp)) (Nat.le_trans lx.out (by omega)) HP2.out HP4.out XB.out.1 XB.out.2 HM.out HE.out).mono ?_
  rintro e w4 ⟨A4, c4, rfl, hd, hb⟩
  have L4 := la L2 hb hd
  clear fx0 zx0 fx1 zx1 fx2 zx2 xx
  have Rx_4 := co Rx_2 hb
  have Rr_4 := co Rr_2 hb
  clear hb hd
  clear HT3
  go_wp2_with fail
  refine (r5told (L4.out.get (A := A4) (c := c4) (xs := digs M.natAbs) (by simp)) LM.out BE.out.1 BE.out.2 HQ.out).mono ?_
  rintro e w5 ⟨A5, c5, rfl, hd, hb⟩
  have L5 := la L4 hb hd
  have Rx_5 := co Rx_4 hb
  have Rr_5 := co Rr_4 hb
  clear hb hd
  obtain ⟨fr0, zr0, fr1, zr1, fr2, zr2, xr⟩ := ly3 Rr_5.out
  go_wp2
  refine bodyPost_ret (v := .tuple #[.agg #[.bool (decide (K < 0)), .slice A5 (digs K.natAbs).length c5, .int .i64 F], .int .i64 V]) (by simp [results, Tryd.results32, go_sem, fr0, fr1, fr2]) rfl ?_
  
  refine ⟨A5, c5, rfl, ?_, ?_⟩
  · exact (fin3 L5.out Rr_5.out noint3 Gr).get (A := A5) (c := c5) (xs := digs K.natAbs) (by simp)
  · exact (fin3 L5.out Rr_5.out noint3 Gr).1

set_option maxHeartbeats 4000000 in
set_option maxRecDepth 100000 in
theorem r5round_w (A : Option Addr) (c : Nat) (s : Bool) (xs : List Nat) (x P : Int) (up : Bool) (w : World) (h : Dg w A c xs) (hl : xs.length ≤ 9223372036854775807) (hq : dyR s xs x = false):
    Calls Tryd.prog 32 #[.agg #[.bool s, .slice A xs.length c, .int .i64 x], .int .i64 P, .bool up] w fun e w' => Ye 0 0 1 w e w' := by
  have lx := Lib.hid hl
  have HQ := Lib.hid hq
  have L0 := Lib.hid ((live_start w).add h)
  clear h hl hq
  go_enter Tryd.func32, Tryd.ntmps32
  go_wp2_with fail
  obtain ⟨v1, hW, hb, Rx_1, Rr_1⟩ := new2 w (.cells #[.bool s, .slice A xs.length c, .int .i64 x] 26) (.cells #[.bool false, .slice none 0 0, .int .i64 0] 26)
  rw [← hW]
  have L1 := ls L0 hb
  have Gx := gl0 L0.out
  have Gr := gl1 L0.out
  have Nxr : w.heap.size < w.heap.size + 1 := by omega
  clear hW hb
  refine (r5right_any (L1.out.get (A := A) (c := c) (xs := xs) (by simp)) lx.out HQ.out).mono ?_
  rintro e w2 ⟨rfl, hb⟩
  have L2 := ls L1 hb
  have Rx_2 := co Rx_1 hb
  have Rr_2 := co Rr_1 hb
  clear hb 
  obtain ⟨fr0, zr0, fr1, zr1, fr2, zr2, xr⟩ := ly3 Rr_2.out
  go_wp2
  refine bodyPost_ret (v := .tuple #[.agg #[.bool false, .slice none 0 0, .int .i64 0], .int .i64 1]) (by simp [results, Tryd.results32, go_sem, fr0, fr1, fr2]) rfl ?_
  exact zero_ye (fin3 L2.out Rr_2.out noint3 Gr).1

set_option maxHeartbeats 4000000 in
set_option maxRecDepth 100000 in
theorem r5round_p (A : Option Addr) (c : Nat) (s : Bool) (xs : List Nat) (x P : Int) (up : Bool) (w : World) (h : Dg w A c xs) (hl : xs.length ≤ 9223372036854775807) (hq : dyR s xs x = true) (hp : precB P = false):
    Calls Tryd.prog 32 #[.agg #[.bool s, .slice A xs.length c, .int .i64 x], .int .i64 P, .bool up] w fun e w' => Ye 0 0 1 w e w' := by
  have lx := Lib.hid hl
  have HQ := Lib.hid hq
  have HP := Lib.hid hp
  have L0 := Lib.hid ((live_start w).add h)
  clear h hl hq hp
  go_enter Tryd.func32, Tryd.ntmps32
  go_wp2_with fail
  obtain ⟨v1, hW, hb, Rx_1, Rr_1⟩ := new2 w (.cells #[.bool s, .slice A xs.length c, .int .i64 x] 26) (.cells #[.bool false, .slice none 0 0, .int .i64 0] 26)
  rw [← hW]
  have L1 := ls L0 hb
  have Gx := gl0 L0.out
  have Gr := gl1 L0.out
  have Nxr : w.heap.size < w.heap.size + 1 := by omega
  clear hW hb
  refine (r5right_any (L1.out.get (A := A) (c := c) (xs := xs) (by simp)) lx.out HQ.out).mono ?_
  rintro e w2 ⟨rfl, hb⟩
  have L2 := ls L1 hb
  have Rx_2 := co Rx_1 hb
  have Rr_2 := co Rr_1 hb
  clear hb 
  go_wp2_with fail
  refine (r5prec P _ HP.out).mono ?_
  rintro e w3 ⟨rfl, rfl⟩
  obtain ⟨fr0, zr0, fr1, zr1, fr2, zr2, xr⟩ := ly3 Rr_2.out
  go_wp2
  refine bodyPost_ret (v := .tuple #[.agg #[.bool false, .slice none 0 0, .int .i64 0], .int .i64 1]) (by simp [results, Tryd.results32, go_sem, fr0, fr1, fr2]) rfl ?_
  exact zero_ye (fin3 L2.out Rr_2.out noint3 Gr).1

set_option maxHeartbeats 4000000 in
set_option maxRecDepth 100000 in
theorem r5sqrt_w (A : Option Addr) (c : Nat) (s : Bool) (xs : List Nat) (x P : Int) (up : Bool) (w : World) (h : Dg w A c xs) (hl : xs.length ≤ 9223372036854775807) (hq : dyR s xs x = false):
    Calls Tryd.prog 36 #[.agg #[.bool s, .slice A xs.length c, .int .i64 x], .int .i64 P, .bool up] w fun e w' => Ye 0 0 1 w e w' := by
  have lx := Lib.hid hl
  have HQ := Lib.hid hq
  have L0 := Lib.hid ((live_start w).add h)
  clear h hl hq
  go_enter Tryd.func36, Tryd.ntmps36
  go_wp2_with fail
  obtain ⟨v1, hW, hb, Rx_1, Rr_1⟩ := new2 w (.cells #[.bool s, .slice A xs.length c, .int .i64 x] 26) (.cells #[.bool false, .slice none 0 0, .int .i64 0] 26)
  rw [← hW]
  have L1 := ls L0 hb
  have Gx := gl0 L0.out
  have Gr := gl1 L0.out
  have Nxr : w.heap.size < w.heap.size + 1 := by omega
  clear hW hb
  refine (r5right_any (L1.out.get (A := A) (c := c) (xs := xs) (by simp)) lx.out HQ.out).mono ?_
  rintro e w2 ⟨rfl, hb⟩
  have L2 := ls L1 hb
  have Rx_2 := co Rx_1 hb
  have Rr_2 := co Rr_1 hb
  clear hb 
  obtain ⟨fr0, zr0, fr1, zr1, fr2, zr2, xr⟩ := ly3 Rr_2.out
  go_wp2
  refine bodyPost_ret (v := .tuple #[.agg #[.bool false, .slice none 0 0, .int .i64 0], .int .i64 1]) (by simp [results, Tryd.results36, go_sem, fr0, fr1, fr2]) rfl ?_
  exact zero_ye (fin3 L2.out Rr_2.out noint3 Gr).1

set_option maxHeartbeats 4000000 in
set_option maxRecDepth 100000 in
theorem r5sqrt_p (A : Option Addr) (c : Nat) (s : Bool) (xs : List Nat) (x P : Int) (up : Bool) (w : World) (h : Dg w A c xs) (hl : xs.length ≤ 9223372036854775807) (hq : dyR s xs x = true) (hp : precB P = false):
    Calls Tryd.prog 36 #[.agg #[.bool s, .slice A xs.length c, .int .i64 x], .int .i64 P, .bool up] w fun e w' => Ye 0 0 1 w e w' := by
  have lx := Lib.hid hl
  have HQ := Lib.hid hq
  have HP := Lib.hid hp
  have L0 := Lib.hid ((live_start w).add h)
  clear h hl hq hp
  go_enter Tryd.func36, Tryd.ntmps36
  go_wp2_with fail
  obtain ⟨v1, hW, hb, Rx_1, Rr_1⟩ := new2 w (.cells #[.bool s, .slice A xs.length c, .int .i64 x] 26) (.cells #[.bool false, .slice none 0 0, .int .i64 0] 26)
  rw [← hW]
  have L1 := ls L0 hb
  have Gx := gl0 L0.out
  have Gr := gl1 L0.out
  have Nxr : w.heap.size < w.heap.size + 1 := by omega
  clear hW hb
  refine (r5right_any (L1.out.get (A := A) (c := c) (xs := xs) (by simp)) lx.out HQ.out).mono ?_
  rintro e w2 ⟨rfl, hb⟩
  have L2 := ls L1 hb
  have Rx_2 := co Rx_1 hb
  have Rr_2 := co Rr_1 hb
  clear hb 
  go_wp2_with fail
  refine (r5prec P _ HP.out).mono ?_
  rintro e w3 ⟨rfl, rfl⟩
  obtain ⟨fr0, zr0, fr1, zr1, fr2, zr2, xr⟩ := ly3 Rr_2.out
  go_wp2
  refine bodyPost_ret (v := .tuple #[.agg #[.bool false, .slice none 0 0, .int .i64 0], .int .i64 1]) (by simp [results, Tryd.results36, go_sem, fr0, fr1, fr2]) rfl ?_
  exact zero_ye (fin3 L2.out Rr_2.out noint3 Gr).1
end Go.Proofs.YtaciohjobenipaaDoor
end

section
/-
  The reference's own text (astrolaberef03): short, guess.
-/
namespace Go.Proofs.YtaciohjobenipaaDoor
open Go.RowKit
set_option maxHeartbeats 2000000 in
set_option maxRecDepth 100000 in
theorem rshort_any (A : Option Addr) (c d : Nat) (xs : List Nat) (w : World) (h : Dg w A c xs) (hl : xs.length ≤ 1048576) (hd0 : 0 < d) (hd : d < 4294967296) :
    Calls Tryd.prog 106 #[.slice A xs.length c, .int .u64 d] w fun e w' => ∃ A' c' B' d', e = .returned (.tuple #[.slice A' (digs (val xs / d)).length c', .slice B' (digs (val xs % d)).length d']) ∧ Dg w' A' c' (digs (val xs / d)) ∧ Dg w' B' d' (digs (val xs % d)) ∧ Below w.heap.size w w' := by
  have H := Lib.hid h
  clear h
  have hmk := run_make_row' (P := Tryd.prog) 22 52 (.int .u32 0) 4 Tryd.underlying22 elem_info rfl .i64 .i64 xs.length (by omega) (by omega)
  have f1 : ((d : Int) == 0) = false := beq_eq_false_iff_ne.2 (by omega)
  have f3 : ((d : Int) != 0) = true := by simp; omega
  go_enter Tryd.func106, Tryd.ntmps106
  go_wp2
  go_loopw [7, 8] (fun rv i wr => ∃ (k r : Nat) (z : Int) (zs : List Nat), k ≤ xs.length ∧ i = .int .i64 z ∧ z = (k : Int) - 1 ∧ rv = .int .u64 r ∧ r < d ∧ Row wr w.heap.size zs ∧ Hid (zs.length = xs.length) ∧ ok32 zs ∧
    Hid (val (xs.drop k) = val (zs.drop k) * d + r) ∧ Below w.heap.size w wr) (fun _ i _ => (intOf i + 1).toNat)
  case atStart => exact ⟨xs.length, 0, (xs.length : Int) - 1, List.replicate xs.length 0, Nat.le_refl _, rfl, rfl, rfl, hd0, Row.made _ _, by simp [Hid], ok_zeros _, by simp [Hid, val], (Below.refl _ _).alloc (Nat.le_refl _) _⟩
  case round =>
    obtain ⟨k, r, z, zs, hk, rfl, hz, rfl, hr, hrow, HL, hok, HE, hbel⟩ := hrel
    rcases k with _ | k
    · obtain rfl : z = -1 := by omega
      clear hz hk
      have HV : Hid (val xs / d = val zs ∧ val xs % d = r) := by
        have e := HE.out
        rw [List.drop_zero, List.drop_zero] at e
        rw [e, Nat.mul_comm, Nat.mul_add_div hd0, Nat.mul_add_mod, Nat.div_eq_of_lt hr, Nat.mod_eq_of_lt hr]
        exact ⟨Nat.add_zero _, rfl⟩
      have L0 := Lib.hid ((live_start wr).add (hrow.dg hok (c := xs.length) (by have := HL.out; omega)))
      have hl' := HL.out
      go_wp2_with fail
      refine Calls.mono (rtrim_l (xs := zs) (x := val xs / d) L0.out (by simp) hl'.symm (by rw [HV.out.1]) (by omega)) ?_
      rintro e w2 ⟨A2, c2, rfl, h2⟩
      have L2 := Lib.hid h2
      clear h2
      have hr64 : r < 18446744073709551616 := by omega
      go_wp2_with fail
      refine Calls.mono (rfrom_l L2.out (i := (r : Int)) (k := r) rfl hr64) ?_
      rintro e w3 ⟨A3, c3, rfl, h3⟩
      have L3 := Lib.hid h3
      clear h3
      go_wp2
      go_ret2
      rw [HV.out.2]
      exact ⟨A2, c2, A3, c3, rfl, L3.out.get (by simp), L3.out.get (by simp), hbel.trans (L3.out.1.mono hbel.size)⟩
    · obtain rfl : z = (k : Int) := by omega
      clear hz
      obtain ⟨b, o, hA, hbk, hcx⟩ := H.out.2.2 (by omega)
      have hy := (hbel.cell (p := ⟨b, o + k, none⟩) hbk).trans (hcx k (by omega))
      have hY := getD_lt H.out.2.1 k
      have hcell := hrow.cell (i := k) (by have := HL.out; omega)
      have hfr := hrow.frozen k
      have hki : (k : Int) < (xs.length : Int) := by omega
      have hki' : k < xs.length := by omega
      generalize ey : xs[k]?.getD 0 = y at *
      have HY := Lib.hid ey
      clear ey hcx
      subst hA
      obtain ⟨t, ht⟩ : ∃ t : Nat, y + 4294967296 * r = t := ⟨_, rfl⟩
      have hO : bits BinOp.or IntKind.u64 ((r : Int) * 4294967296) (y : Int) = (t : Int) := by rw [or_join _ _ (by omega) hY, ht]
      obtain ⟨q, hq⟩ : ∃ q : Nat, t / d = q := ⟨_, rfl⟩
      obtain ⟨r', hr'⟩ : ∃ r' : Nat, t % d = r' := ⟨_, rfl⟩
      have hw0 : (t : Int) / (d : Int) = (q : Int) := by rw [← hq, ← Int.natCast_ediv]
      have hw1 : (t : Int) % (d : Int) = (r' : Int) := by rw [← hr', Int.natCast_emod]
      have bq : q < 4294967296 := by rw [← hq, Nat.div_lt_iff_lt_mul hd0, ← ht]; have := Nat.mul_le_mul_left 4294967296 hr; omega
      have br : r' < d := by rw [← hr']; exact Nat.mod_lt _ hd0
      have bt : t < 18446744073709551616 := by omega
      have HQ := Lib.hid (show (y + 4294967296 * r) / d = q by rw [ht, hq])
      have HR := Lib.hid (show (y + 4294967296 * r) % d = r' by rw [ht, hr'])
      clear hq hr' ht
      go_wp2
      go_roundw
      case rel =>
        have hl' := HL.out
        exact ⟨k, r', (k : Int) - 1, zs.set k q, by omega, rfl, rfl, by rw [hw1], br, hrow.set_int rfl, by simp only [List.length_set]; exact HL, ok_set hok bq _, digit_step hki' (by omega) HE.out (by rw [HY.out]; exact HQ.out) (by rw [HY.out]; exact HR.out), hbel.setCell (by simp) _⟩
      case measure => simp [intOf]
theorem top_ne {D n : Nat} (hn : (digs D).length = n + 1) : (digs D)[n]?.getD 0 ≠ 0 := by
  have hl : (digs D).getLast? = (digs D)[n]? := by rw [List.getLast?_eq_getElem?, hn, Nat.add_sub_cancel]
  rcases hx : (digs D)[n]? with _ | x
  · rw [List.getElem?_eq_none_iff] at hx; omega
  · rw [hx] at hl; exact last_digs hl
theorem pow_le {D n : Nat} (hn : (digs D).length = n + 1) : 4294967296 ^ n ≤ D := by
  have := val_seen1 (ok_digs D) hn
  rw [val_digs] at this
  have := Nat.mul_le_mul_right (4294967296 ^ n) (show 1 ≤ (digs D)[n]?.getD 0 by have := top_ne hn; omega)
  omega
theorem guess_up {R D g n : Nat} (hlt : R < D * 4294967296) (hn : (digs D).length = n + 1) (hg : ∀ t, t * 4294967296 ^ n ≤ R → t < 18446744073709551616 → t / (digs D)[n]?.getD 0 ≤ g ∨ 4294967295 ≤ g) : R / D ≤ g := by
  have v1 := val_seen1 (ok_digs D) hn
  rw [val_digs] at v1
  have hD : D ≠ 0 := fun e => by rw [e, Nat.zero_mul] at hlt; omega
  have hf := top_ne hn
  have hp : 0 < 4294967296 ^ n := Nat.pow_pos (by omega)
  have hq : R / D < 4294967296 := by rw [Nat.div_lt_iff_lt_mul (by omega), Nat.mul_comm]; exact hlt
  have ht : R / 4294967296 ^ n < 18446744073709551616 := by
    rw [Nat.div_lt_iff_lt_mul hp]
    have h1 := val_lt (ok_digs D)
    rw [val_digs, hn, Nat.pow_succ] at h1
    omega
  rcases hg (R / 4294967296 ^ n) (Nat.div_mul_le_self _ _) ht with h | h
  · refine Nat.le_trans (kn_start (u := R) (v := D) (p := 4294967296 ^ n) (by omega) ?_ v1.1 (Nat.div_mul_le_self _ _)) h
    have := Nat.div_add_mod R (4294967296 ^ n)
    have := Nat.mod_lt R hp
    rw [Nat.add_mul, Nat.mul_comm (_ / _)]; omega
  · omega
theorem min_nat (q : Nat) (h : q < 18446744073709551616) : ∃ g : Nat, min (q : Int) 4294967295 = (g : Int) ∧ g < 4294967296 ∧ (q ≤ g ∨ 4294967295 ≤ g) := ⟨min q 4294967295, by omega, by omega, by omega⟩
theorem seen_one {R n : Nat} (hl : (digs R).length = n + 1) : R / 4294967296 ^ n = (digs R)[n]?.getD 0 := by
  have r1 := val_seen1 (ok_digs R) hl
  rw [val_digs] at r1
  have hp : 0 < 4294967296 ^ n := Nat.pow_pos (by omega)
  refine Nat.le_antisymm (Nat.le_of_lt_succ ?_) ?_
  · rw [Nat.div_lt_iff_lt_mul hp]; exact r1.2
  · rw [Nat.le_div_iff_mul_le hp]; exact r1.1
theorem seen_two {R n : Nat} (hl : (digs R).length = n + 2) : R / 4294967296 ^ n = (digs R)[n + 1]?.getD 0 * 4294967296 + (digs R)[n]?.getD 0 := by
  have r1 := val_seen2 (ok_digs R) hl
  rw [val_digs] at r1
  have hp : 0 < 4294967296 ^ n := Nat.pow_pos (by omega)
  refine Nat.le_antisymm (Nat.le_of_lt_succ ?_) ?_
  · rw [Nat.div_lt_iff_lt_mul hp]; exact r1.2
  · rw [Nat.le_div_iff_mul_le hp]; exact r1.1
/-- What guess answers. -/
def Gss (l : Nat) (e : Ending) : Prop := ∃ g : Nat, e = .returned (.int .u64 g) ∧ l ≤ g ∧ g < 4294967296
set_option maxHeartbeats 2000000 in
set_option maxRecDepth 100000 in
theorem rguess_any (A B : Option Addr) (c d R D : Nat) (w : World) (h : Dg w A c (digs R)) (h' : Dg w B d (digs D)) (hD : D ≠ 0) (hlt : R < D * 4294967296) (hl : (digs D).length ≤ 1048576) :
    Calls Tryd.prog 107 #[.slice A (digs R).length c, .slice B (digs D).length d] w fun e w' => Gss (R / D) e ∧ w = w' := by
  obtain ⟨n, hn⟩ : ∃ n, (digs D).length = n + 1 := ⟨(digs D).length - 1, by have : (digs D).length ≠ 0 := fun e => hD (digs_nil.1 e); omega⟩
  have hR : (digs R).length ≤ n + 2 := by
    apply digs_len_lt
    have h1 := val_lt (ok_digs D)
    rw [val_digs, hn] at h1
    have e : 4294967296 ^ (n + 2) = 4294967296 ^ (n + 1) * 4294967296 := Nat.pow_succ _ _
    rw [e]
    exact Nat.lt_trans hlt (Nat.mul_lt_mul_of_pos_right h1 (by omega))
  have nb : n ≤ 1048576 := by omega
  have hf := top_ne hn
  have HG := Lib.hid (fun g => guess_up (g := g) hlt hn)
  have bf := getD_lt (ok_digs D) n
  obtain ⟨b, p, hB, hb, hcb⟩ := h'.2.2 (by omega)
  have q0 := hcb n (by omega)
  generalize (digs D)[n]?.getD 0 = f at *
  have f1 : ((f : Int) == 0) = false := beq_eq_false_iff_ne.2 (by omega)
  have f3 : ((f : Int) != 0) = true := by simp; omega
  have f0 : 0 < f := by omega
  rw [hn]
  by_cases h0 : (digs R).length < n + 1
  · have t0 : decide ((digs R).length < n + 1) = true := by simp [h0]
    have HZ : Hid (R / D ≤ 0) := by
      have h1 : R < 4294967296 ^ n := by
        have := val_lt (ok_digs R)
        rw [val_digs] at this
        exact Nat.lt_of_lt_of_le this (Nat.pow_le_pow_right (by omega) (by omega))
      have h3 := pow_le hn
      show R / D ≤ 0
      rw [Nat.div_eq_of_lt (by omega)]
      exact Nat.le_refl _
    clear h h' hcb q0 hf HG
    go_enter Tryd.func107, Tryd.ntmps107
    go_wp2
    go_ret
    exact ⟨⟨0, rfl, HZ.out, by omega⟩, rfl⟩
  · obtain ⟨a, o, hA, ha, hca⟩ := h.2.2 (by omega)
    have c0 := hca n (by omega)
    have bx := getD_lt (ok_digs R) n
    have t0 : decide ((digs R).length < n + 1) = false := by simp; omega
    by_cases h1 : (digs R).length = n + 1
    · have es := seen_one h1
      have hq := Nat.div_le_self ((digs R)[n]?.getD 0) f
      obtain ⟨g, hg, bg, hgq⟩ := min_nat ((digs R)[n]?.getD 0 / f) (by omega)
      have hw : IntKind.u64.wrap ((((digs R)[n]?.getD 0 : Nat) : Int) / (f : Int)) = (((digs R)[n]?.getD 0 / f : Nat) : Int) := by rw [← Int.natCast_ediv]; exact IntWalk.u64_in _ ⟨by omega, by omega⟩
      have HS : Hid (R / D ≤ g) := by
        refine HG.out g fun t ht _ => ?_
        have h2 : t ≤ (digs R)[n]?.getD 0 := by rw [← es, Nat.le_div_iff_mul_le (Nat.pow_pos (by omega))]; exact ht
        have := Nat.div_le_div_right (c := f) h2
        omega
      generalize (digs R)[n]?.getD 0 = x at *
      generalize x / f = q at *
      rw [h1]
      have d0 : decide (n + 1 < n + 1) = false := by simp
      subst hA hB
      clear h h' hcb hca h0 hf HG es h1 hgq hq t0 hR hn hl hlt hD
      go_enter Tryd.func107, Tryd.ntmps107
      go_wp2
      go_ret
      exact ⟨⟨g, rfl, HS.out, bg⟩, rfl⟩
    · have h2 : (digs R).length = n + 2 := by omega
      have es := seen_two h2
      have c1 := hca (n + 1) (by omega)
      have by1 := getD_lt (ok_digs R) (n + 1)
      have hq := Nat.div_le_self ((digs R)[n + 1]?.getD 0 * 4294967296 + (digs R)[n]?.getD 0) f
      obtain ⟨g, hg, bg, hgq⟩ := min_nat (((digs R)[n + 1]?.getD 0 * 4294967296 + (digs R)[n]?.getD 0) / f) (by omega)
      have HS : Hid (R / D ≤ g) := by
        refine HG.out g fun t ht _ => ?_
        have h2 : t ≤ (digs R)[n + 1]?.getD 0 * 4294967296 + (digs R)[n]?.getD 0 := by rw [← es, Nat.le_div_iff_mul_le (Nat.pow_pos (by omega))]; exact ht
        have := Nat.div_le_div_right (c := f) h2
        omega
      generalize (digs R)[n]?.getD 0 = x at *
      generalize (digs R)[n + 1]?.getD 0 = y at *
      obtain ⟨t, ht⟩ : ∃ t : Nat, y * 4294967296 + x = t := ⟨_, rfl⟩
      have hO : bits BinOp.or IntKind.u64 (x : Int) ((y : Int) * 4294967296) = (t : Int) := by rw [or_join' _ _ bx by1]; congr 1; omega
      have bt : t < 18446744073709551616 := by omega
      rw [ht] at hg hgq hq
      have hw : IntKind.u64.wrap ((t : Int) / (f : Int)) = ((t / f : Nat) : Int) := by rw [← Int.natCast_ediv]; exact IntWalk.u64_in _ ⟨by omega, by omega⟩
      generalize t / f = q at *
      rw [h2]
      have d0 : decide (n + 2 < n + 1) = false := by simp
      have d1 : decide (n + 1 < n + 2) = true := by simp
      subst hA hB
      clear h h' hcb hca h0 h1 hf HG es h2 hgq hq t0 hR hn hl hlt hD ht
      go_enter Tryd.func107, Tryd.ntmps107
      go_wp2
      go_ret
      exact ⟨⟨g, rfl, HS.out, bg⟩, rfl⟩
end Go.Proofs.YtaciohjobenipaaDoor
end

section
/-
  The reference's own text (astrolaberef03): DivMod.
-/
namespace Go.Proofs.YtaciohjobenipaaDoor
open Go.RowKit
/-- What stands between two digits of the reference's long division: the digits from k on are done. -/
structure Rv (X D k : Nat) (zs : List Nat) (r : Nat) : Prop where
  lt : r < D
  ok : ok32 zs
  eq : X / 4294967296 ^ k = val (zs.drop k) * D + r
theorem Rv.start {X D N : Nat} (hD : 0 < D) (h : X < 4294967296 ^ N) : Rv X D N (List.replicate N 0) 0 :=
  ⟨hD, ok_zeros _, by rw [Nat.div_eq_of_lt h]; simp [val]⟩
theorem Rv.next {X D k : Nat} {zs : List Nat} {r x : Nat} (h : Rv X D (k + 1) zs r) (hk : k < zs.length) (hx : x = X / 4294967296 ^ k % 4294967296) :
    x + 4294967296 * r < D * 4294967296 ∧ ∀ q, q = (x + 4294967296 * r) / D → Rv X D k (zs.set k q) (x + 4294967296 * r - D * q) := by
  have hl := h.lt
  have hx' : x < 4294967296 := by omega
  have h1 : x + 4294967296 * r < D * 4294967296 := by
    have := Nat.mul_le_mul_left 4294967296 hl
    omega
  refine ⟨h1, fun q hq => ?_⟩
  have hD : 0 < D := by omega
  have hm := Nat.div_add_mod (x + 4294967296 * r) D
  have hr := Nat.mod_lt (x + 4294967296 * r) hD
  rw [← hq] at hm
  refine ⟨by omega, ok_set h.ok (by rw [hq, Nat.div_lt_iff_lt_mul hD]; omega) _, ?_⟩
  have e2 : (zs.set k q).drop k = q :: zs.drop (k + 1) := by
    rw [List.drop_eq_getElem_cons (by simpa using hk), List.drop_set_of_lt (by omega)]; simp
  have e3 : X / 4294967296 ^ k = x + 4294967296 * (X / 4294967296 ^ (k + 1)) := by
    rw [Nat.pow_succ, ← Nat.div_div_eq_div_mul]; omega
  rw [e2, e3, h.eq]
  simp only [val]
  rw [Nat.add_mul, Nat.mul_add, Nat.mul_assoc, Nat.mul_comm q D]
  omega
theorem Rv.done {X D : Nat} {zs : List Nat} {r : Nat} (h : Rv X D 0 zs r) : val zs = X / D ∧ r = X % D := by
  have := h.eq
  rw [Nat.pow_zero, Nat.div_one, List.drop_zero] at this
  exact div_done (by rw [this, Nat.mul_comm]; omega) h.lt
theorem digs_cons (x r : Nat) : val (x :: digs r) = x + 4294967296 * r := by simp only [val, val_digs]
theorem digs_at (X k : Nat) : (digs X)[k]?.getD 0 = X / 4294967296 ^ k % 4294967296 := by
  induction k generalizing X with
  | zero =>
    by_cases h : X = 0
    · subst h; rw [digs_zero]; simp
    · rw [digs_pos h]; simp
  | succ k ih =>
    by_cases h : X = 0
    · subst h; rw [digs_zero]; simp
    · rw [digs_pos h, List.getElem?_cons_succ, ih, Nat.pow_succ, Nat.mul_comm, Nat.div_div_eq_div_mul]
theorem Dg.set_other {w : World} {A : Option Addr} {c g : Nat} {xs : List Nat} (h : Dg w A c xs) (hA : ∀ o, A ≠ some ⟨g, o, none⟩) (i : Nat) (v : Value) : Dg (w.setCell ⟨g, i, none⟩ v) A c xs :=
  ⟨h.1, h.2.1, fun h0 => by
    obtain ⟨b, off, e, hb, hc⟩ := h.2.2 h0
    have hne : b ≠ g := fun e' => hA off (by rw [e, e'])
    refine ⟨b, off, e, by simpa using hb, fun j hj => ?_⟩
    rw [World.cell?_setCell_other _ _ _ _ (by intro h; simp only [Addr.mk.injEq] at h; omega)]
    exact hc j hj⟩
theorem rsub_any (A B : Option Addr) (c d x y : Nat) (w : World) (h : Dg w A c (digs x)) (h' : Dg w B d (digs y)) (hl : (digs x).length ≤ 1048576) (hl' : (digs y).length ≤ 1048576) :
    Calls Tryd.prog 97 #[.slice A (digs x).length c, .slice B (digs y).length d] w fun e w' => ∃ A' c', e = .returned (.tuple #[.slice A' (digs (x - y)).length c', .bool (decide (y ≤ x))]) ∧ Dg w' A' c' (digs (x - y)) ∧ Below w.heap.size w w' ∧ Fr w.heap.size A' := by
  rcases Nat.lt_or_ge x y with hlt | hge
  · have h0 := rsub_no A B c d (digs x) (digs y) w h h' hl hl' (by rw [val_digs, val_digs]; exact hlt)
    refine h0.mono fun _ _ ⟨he, hw⟩ => ⟨none, 0, ?_, ?_, ?_, fr_none _⟩
    · rw [he, show x - y = 0 by omega, digs_zero, decide_eq_false (by omega)]; rfl
    · rw [show x - y = 0 by omega, digs_zero]; exact Dg.nil_ _ _
    · rw [← hw]; exact Below.refl _ _
  · have h0 := rsub_f A B c d (digs x) (digs y) w h h' hl hl' (by rw [val_digs, val_digs]; exact hge)
    rw [val_digs, val_digs] at h0
    refine h0.mono fun _ _ ⟨A', c', he, hd, hb, hf⟩ => ⟨A', c', ?_, hd, hb, hf⟩
    rw [he, decide_eq_true hge]
section
variable {w0 w w' : World} {L : List (Option Addr × Nat × List Nat)} {A B : Option Addr} {c d x y : Nat} {q : Bool}
theorem rsub_b (hL : Live w0 w L) (h1 : (A, c, digs x) ∈ L) (h2 : (B, d, digs y) ∈ L) (b1 : (digs x).length ≤ 1048576) (b2 : (digs y).length ≤ 1048576) (hq : decide (y ≤ x) = q) :
    Calls Tryd.prog 97 #[.slice A (digs x).length c, .slice B (digs y).length d] w fun e w' => ∃ A' c', e = .returned (.tuple #[.slice A' (digs (x - y)).length c', .bool q]) ∧ Live w0 w' ((A', c', digs (x - y)) :: L) ∧ Fr w0.heap.size A' := by
  subst hq
  exact (rsub_any A B c d x y w (hL.get h1) (hL.get h2) b1 b2).mono fun _ _ ⟨A', c', he, hd, hb, hf⟩ => ⟨A', c', he, (hL.step hb).add hd, fun b o e => Nat.le_trans hL.1.size (hf b o e)⟩
end
theorem digs_len_step (R D : Nat) (h : R < D * 4294967296) : (digs R).length ≤ (digs D).length + 1 := by
  apply digs_len_lt
  have h1 := val_lt (ok_digs D)
  rw [val_digs] at h1
  rw [Nat.pow_succ]
  exact Nat.lt_trans h (Nat.mul_lt_mul_of_pos_right h1 (by omega))
theorem quot_is {R D g : Nat} (hD : 0 < D) (h1 : R / D ≤ g) (h2 : D * g ≤ R) : g = R / D := Nat.le_antisymm (by rw [Nat.le_div_iff_mul_le hD, Nat.mul_comm]; exact h2) h1
theorem quot_less {R D g : Nat} (hD : 0 < D) (h2 : ¬ D * g ≤ R) : 1 ≤ g ∧ R / D ≤ g - 1 := by
  have h3 : R / D < g := by rw [Nat.div_lt_iff_lt_mul hD, Nat.mul_comm]; omega
  generalize R / D = q at *
  omega
set_option maxHeartbeats 8000000 in
set_option maxRecDepth 100000 in
theorem rdivmod_long (A B : Option Addr) (c d : Nat) (xs ys : List Nat) (w : World) (h : Dg w A c xs) (h' : Dg w B d ys) (hl : xs.length ≤ 100000) (hl' : ys.length ≤ 100000) (h2 : 2 ≤ (digs (val ys)).length) :
    Calls Tryd.prog 75 #[.slice A xs.length c, .slice B ys.length d] w fun e w' => ∃ A' c' B' d', e = .returned (.tuple #[.slice A' (digs (val xs / val ys)).length c', .slice B' (digs (val xs % val ys)).length d', .bool true]) ∧ Dg w' A' c' (digs (val xs / val ys)) ∧ Dg w' B' d' (digs (val xs % val ys)) ∧ Below w.heap.size w w' := by
  have y0 : val ys ≠ 0 := fun e => by rw [e, digs_zero] at h2; simp at h2
  obtain ⟨s, hs31, hs⟩ := norm_way y0
  have L0 := Lib.hid (((live_start w).add h).add h')
  have l1 := digs_len_le h.2.1
  have l2 := digs_len_le h'.2.1
  have HN := Lib.hid (show (32 : Int) * ((digs (val ys)).length : Int) - (blen (val ys) : Int) = (s : Int) by omega)
  have bB : blen (val ys) ≤ 32 * (digs (val ys)).length := by omega
  have t0 : (((digs (val ys)).length : Int) == 0) = false := beq_eq_false_iff_ne.2 (by omega)
  have t1 : (((digs (val ys)).length : Int) == 1) = false := beq_eq_false_iff_ne.2 (by omega)
  have HDM := Lib.hid (div_moved (val xs) (val ys) s)
  have HMM := Lib.hid (mod_moved (val xs) (val ys) s)
  have HD0 := Lib.hid (show 0 < val ys * 2 ^ s from Nat.mul_pos (by omega) (Nat.pow_pos (by omega)))
  have ld := digs_shl_len (val ys) s
  have lm := digs_shl_len (val xs) s
  clear h h' hs y0
  go_enter Tryd.func75, Tryd.ntmps75
  go_wp2_with fail
  refine Calls.mono (rtrim_l (xs := ys) (x := val ys) L0.out (by simp) rfl rfl (by omega)) ?_
  rintro e w1 ⟨A1, c1, rfl, h1⟩
  have L1 := Lib.hid h1
  clear h1
  go_wp2_with fail
  refine Calls.mono (rbits_l (xs := digs (val ys)) (x := val ys) (q := (blen (val ys) : Int)) L1.out (by simp) rfl (val_digs _) (by omega) rfl) ?_
  rintro e w2 ⟨rfl, h1⟩
  have L2 := Lib.hid h1
  clear h1
  go_wp2_with fail
  rw [HN.out]
  refine Calls.mono (rshl_l (xs := digs (val ys)) (x := val ys) (i := (s : Int)) (k := s) L2.out (by simp) rfl (val_digs _) (by omega) rfl (by omega)) ?_
  rintro e w3 ⟨A3, c3, rfl, h1⟩
  have L3 := Lib.hid h1
  clear h1
  go_wp2_with fail
  refine Calls.mono (rshl_l (xs := xs) (x := val xs) (i := (s : Int)) (k := s) L3.out (by simp) rfl rfl (by omega) rfl (by omega)) ?_
  rintro e w4 ⟨A4, c4, rfl, h1⟩
  have L4 := Lib.hid (show Live w w4 [(A4, c4, digs (val xs * 2 ^ s)), (A3, c3, digs (val ys * 2 ^ s))] from ⟨h1.1, fun t ht => h1.2 t (by simp at ht ⊢; rcases ht with rfl | rfl <;> simp)⟩)
  clear h1 L0 L1 L2 L3
  generalize val xs * 2 ^ s = M at *
  generalize val ys * 2 ^ s = D at *
  have lm' : (digs M).length ≤ 200000 := by omega
  have ld' : (digs D).length ≤ 200000 := by omega
  have HM := Lib.hid (show M < 4294967296 ^ (digs M).length by have := val_lt (ok_digs M); rwa [val_digs] at this)
  have hmk := run_make_row' (P := Tryd.prog) 22 52 (.int .u32 0) 4 Tryd.underlying22 elem_info rfl .i64 .i64 (digs M).length (by omega) (by omega)
  clear lm ld l1 l2 t0 t1 h2 bB hl hl'
  go_wp2
  go_loopw [14, 15] (fun rv i wr => ∃ (A5 : Option Addr) (c5 r k : Nat) (z : Int) (zs : List Nat), k ≤ (digs M).length ∧ i = .int .i64 z ∧ z = (k : Int) - 1 ∧ rv = .slice A5 (digs r).length c5 ∧ Hid (Dg wr A5 c5 (digs r)) ∧ Hid (∀ o, A5 ≠ some ⟨w4.heap.size, o, none⟩) ∧ Row wr w4.heap.size zs ∧ Hid (zs.length = (digs M).length) ∧
    Hid (Rv M D k zs r) ∧ Below w4.heap.size w4 wr) (fun _ i _ => (intOf i + 1).toNat)
  case atStart => exact ⟨none, 0, 0, (digs M).length, ((digs M).length : Int) - 1, List.replicate (digs M).length 0, Nat.le_refl _, rfl, rfl, by rw [digs_zero]; rfl, by rw [digs_zero]; exact Dg.nil_ _ _, (fun _ h => nomatch h), Row.made _ _, by simp [Hid], Rv.start HD0.out HM.out, (Below.refl _ _).alloc (Nat.le_refl _) _⟩
  case round =>
    obtain ⟨A5, c5, r, k, z, zs, hk, rfl, hz, rfl, HA5, HNE, hrow, HL, HE, hbel⟩ := hrel
    rcases k with _ | k
    · obtain rfl : z = -1 := by omega
      clear hz hk
      obtain ⟨e1, e2⟩ := HE.out.done
      have hl' := HL.out
      have lr : (digs r).length ≤ (digs D).length := digs_len_mono _ _ (Nat.le_of_lt HE.out.lt)
      have L5 := Lib.hid (((live_start wr).add HA5.out).add (hrow.dg HE.out.ok (c := (digs M).length) (by omega)))
      have E1 := Lib.hid (show val zs = val xs / val ys by rw [e1, HDM.out])
      have E2 := Lib.hid (show r / 2 ^ s = val xs % val ys by rw [e2, HMM.out])
      clear e1 e2
      go_wp2_with fail
      refine Calls.mono (rtrim_l (xs := zs) (x := val xs / val ys) L5.out (by simp) hl'.symm E1.out (by omega)) ?_
      rintro e w6 ⟨A6, c6, rfl, h1⟩
      have L6 := Lib.hid h1
      clear h1
      go_wp2_with fail
      refine Calls.mono (rshr_l (xs := digs r) (x := r) (i := (s : Int)) (k := s) L6.out (by simp) rfl (val_digs _) (by omega) rfl (by omega)) ?_
      rw [E2.out]
      rintro e w7 ⟨A7, c7, rfl, h1⟩
      have L7 := Lib.hid h1
      clear h1
      go_wp2
      go_ret3
      exact ⟨A6, c6, A7, c7, rfl, L7.out.get (by simp), L7.out.get (by simp), L4.out.1.trans ((hbel.trans (L7.out.1.mono hbel.size)).mono L4.out.1.size)⟩
    · obtain rfl : z = (k : Int) := by omega
      clear hz
      have hl' := HL.out
      have hlt : k < (digs M).length := by omega
      obtain ⟨bn, on, hAn, hbn, hcn⟩ := (L4.out.get (A := A4) (c := c4) (xs := digs M) (by simp)).2.2 (by omega)
      have hx := (hbel.cell (p := ⟨bn, on + k, none⟩) hbn).trans (hcn k hlt)
      have hX := getD_lt (ok_digs M) k
      have HX := Lib.hid (digs_at M k)
      generalize (digs M)[k]?.getD 0 = x at *
      obtain ⟨hlt2, hnx⟩ := HE.out.next (x := x) (by omega) HX.out
      have HNX := Lib.hid hnx
      have LR := digs_len_mono _ _ (Nat.le_of_lt HE.out.lt)
      have hcell := hrow.cell (i := k) (by omega)
      have hfr := hrow.frozen k
      have HLT2 := Lib.hid hlt2
      have HO := Lib.hid (World.ownsRow_lit (base := wr.heap.size) (e := 52) (size := 1) wr #[.int .u32 (x : Int)] 1 (Nat.le_refl _) (by unfold maxLen; omega) rfl)
      subst hAn
      have LM := Lib.hid (L4.out.get (A := some ⟨bn, on, none⟩) (c := c4) (xs := digs M) (by simp))
      have LD := Lib.hid (L4.out.get (A := A3) (c := c3) (xs := digs D) (by simp))
      clear hcn hnx hlt2
      go_wp2_with (at_builtin; refine wpList_append_dg rfl _ _ rfl wr.heap.size _ 1 [x] (digs r) A5 c5 (digs r).length rfl HO.out (HA5.out.below ((Below.refl _ _).alloc (Nat.le_refl _) _)) rfl rfl (by omega) (by simp) ?_)
      intro v' w6 hown hgrow
      obtain ⟨A6, c6, hv, hd6⟩ := dg_of_own hown (fun y hy => (List.mem_cons.1 hy).elim (fun h => h ▸ hX) (fun h => ok_digs r y h))
      have hb6 := ((Below.refl _ wr).alloc (Nat.le_refl _) (.cells #[.int .u32 (x : Int)] 52)).grown hgrow (by simp) (by intro k hk; simp [Value.ownBlock] at hk; omega)
      have L6 := Lib.hid (show Live wr w6 [(A6, c6, x :: digs r), (A3, c3, digs D)] from ((((live_start wr).add (LD.out.below hbel)).step hb6).add hd6))
      have l6 : (x :: digs r).length ≤ 200001 := by simp; omega
      subst hv
      clear hown hd6 hgrow hb6
      go_wp2_with fail
      refine Calls.mono (rtrim_l (xs := x :: digs r) (x := x + 4294967296 * r) L6.out (by simp) (by simp) (digs_cons x r) (by omega)) ?_
      rintro e w7 ⟨A7, c7, rfl, h1⟩
      have L7 := Lib.hid h1
      clear h1 L6 l6
      obtain ⟨R, hR⟩ : ∃ R, x + 4294967296 * r = R := ⟨_, rfl⟩
      rw [hR] at L7 HLT2 HNX
      rw [hR]
      have lR : (digs R).length ≤ 200001 := by
        have h1 := digs_len_step R D HLT2.out
        omega
      clear hR
      go_wp2_with fail
      refine Calls.mono (rguess_any A7 A3 c7 c3 R D w7 (L7.out.get (by simp)) (L7.out.get (by simp)) (by have := HD0.out; omega) HLT2.out (by omega)) ?_
      rintro e w8 ⟨⟨g, rfl, hg, bg⟩, rfl⟩
      have HG := Lib.hid hg
      clear hg
      go_wp2_with fail
      refine Calls.mono (rfrom_l L7.out (i := (g : Int)) (k := g) rfl (by omega)) ?_
      rintro e w8 ⟨A8, c8, rfl, h1⟩
      have L8 := Lib.hid h1
      clear h1
      have lg := digs_small (n := g) (by omega)
      go_wp2_with fail
      refine Calls.mono (rmul_l (xs := digs D) (ys := digs g) (x := D) (y := g) L8.out (by simp) (by simp) rfl rfl (val_digs _) (val_digs _) (by omega) (by omega)) ?_
      rintro e w9 ⟨A9, c9, rfl, h1⟩
      have L9 := Lib.hid h1
      clear h1
      have lm9 := digs_mul_len D g
      go_wp2_with fail
      obtain ⟨q0, hq0⟩ : ∃ q, decide (D * g ≤ R) = q := ⟨_, rfl⟩
      have HQ0 := Lib.hid hq0
      clear hq0
      refine Calls.mono (rsub_b (x := R) (y := D * g) L9.out (by simp) (by simp) (by omega) (by omega) HQ0.out) ?_
      rintro e w10 ⟨A10, c10, rfl, h1, hf1⟩
      have HF10 := Lib.hid hf1
      clear hf1
      have L10 := Lib.hid (show Live wr w10 [(A10, c10, digs (R - D * g)), (A7, c7, digs R), (A3, c3, digs D)] from ⟨h1.1, fun t ht => h1.2 t (by simp at ht ⊢; rcases ht with rfl | rfl | rfl <;> simp)⟩)
      clear h1 L7 L8 L9 lm9 lg
      obtain ⟨wo, rfl⟩ : ∃ wo : World, wo = wr := ⟨_, rfl⟩
      go_wp2
      go_loopg [16, 17, 18] g (fun g' gv sv bv wr2 => ∃ (A11 : Option Addr) (c11 : Nat) (q : Bool), gv = .int .u64 g' ∧ sv = .slice A11 (digs (R - D * g')).length c11 ∧ bv = .bool q ∧ Hid (decide (D * g' ≤ R) = q) ∧ Hid (R / D ≤ g') ∧ g' < 4294967296 ∧
        Hid (Live wo wr2 [(A11, c11, digs (R - D * g')), (A7, c7, digs R), (A3, c3, digs D)]) ∧ Hid (Fr wo.heap.size A11))
      case atStart => exact ⟨A10, c10, q0, rfl, rfl, rfl, HQ0.out, HG.out, bg, L10.out, HF10.out⟩
      case round =>
        obtain ⟨A11, c11, q, rfl, rfl, rfl, HQ, HG2, bg2, L11, HF⟩ := hrel
        rcases q with _ | _
        · have HS := Lib.hid (quot_less HD0.out (of_decide_eq_false HQ.out))
          have g1 := HS.out.1
          have eg : (gk : Int) - 1 = ((gk - 1 : Nat) : Int) := by omega
          have EG := Lib.hid eg
          clear eg
          go_wp2_with fail
          rw [EG.out]
          refine Calls.mono (rfrom_l L11.out (i := ((gk - 1 : Nat) : Int)) (k := gk - 1) rfl (by omega)) ?_
          rintro e w12 ⟨A12, c12, rfl, h1⟩
          have L12 := Lib.hid h1
          clear h1
          have lg := digs_small (n := gk - 1) (by omega)
          go_wp2_with fail
          refine Calls.mono (rmul_l (xs := digs D) (ys := digs (gk - 1)) (x := D) (y := gk - 1) L12.out (by simp) (by simp) rfl rfl (val_digs _) (val_digs _) (by omega) (by omega)) ?_
          rintro e w13 ⟨A13, c13, rfl, h1⟩
          have L13 := Lib.hid h1
          clear h1
          have lm9 := digs_mul_len D (gk - 1)
          obtain ⟨q1, hq1⟩ : ∃ q, decide (D * (gk - 1) ≤ R) = q := ⟨_, rfl⟩
          have HQ1 := Lib.hid hq1
          clear hq1
          go_wp2_with fail
          refine Calls.mono (rsub_b (x := R) (y := D * (gk - 1)) L13.out (by simp) (by simp) (by omega) (by omega) HQ1.out) ?_
          rintro e w14 ⟨A14, c14, rfl, h1, hf1⟩
          have HF14 := Lib.hid hf1
          have L14 := Lib.hid (show Live wo w14 [(A14, c14, digs (R - D * (gk - 1))), (A7, c7, digs R), (A3, c3, digs D)] from ⟨h1.1, fun t ht => h1.2 t (by simp at ht ⊢; rcases ht with rfl | rfl | rfl <;> simp)⟩)
          clear h1 hf1
          go_wp2
          go_roundg (gk - 1)
          case measure => have := HS.out.1; omega
          case rel => exact ⟨A14, c14, q1, rfl, rfl, rfl, HQ1.out, HS.out.2, by omega, L14.out, HF14.out⟩
        · have HS := Lib.hid (quot_is HD0.out HG2.out (of_decide_eq_true HQ.out))
          have hrow2 := hrow.below_ L11.out.1
          have hcell2 := hrow2.cell (i := k) (by omega)
          have hfr2 := hrow2.frozen k
          have HB2 := Lib.hid (hbel.trans (L11.out.1.mono hbel.size))
          have hne2 : ∀ o, A11 ≠ some ⟨w4.heap.size, o, none⟩ := fun o e => by have := HF.out _ _ e; have := hrow.lt; omega
          have HNE2 := Lib.hid hne2
          clear hne2 hcell hfr
          go_wp2
          go_roundw
          case rel => exact ⟨A11, c11, R - D * gk, k, (k : Int) - 1, zs.set k gk, by omega, rfl, rfl, rfl, (L11.out.get (by simp)).set_other HNE2.out _ _, HNE2.out, hrow2.set_int rfl, by simp only [List.length_set]; exact HL, HNX.out gk HS.out, HB2.out.setCell (by simp) _⟩
          case measure => simp [intOf]
end Go.Proofs.YtaciohjobenipaaDoor
end

section
/-
  The reference's own text (astrolaberef03): DivMod whole, Gcd, Sqrt.
-/
namespace Go.Proofs.YtaciohjobenipaaDoor
open Go.RowKit
set_option maxHeartbeats 2000000 in
set_option maxRecDepth 100000 in
theorem rdivmod_no (A B : Option Addr) (c d : Nat) (xs ys : List Nat) (w : World) (h : Dg w A c xs) (h' : Dg w B d ys) (hl' : ys.length ≤ 100000) (y0 : val ys = 0) :
    Calls Tryd.prog 75 #[.slice A xs.length c, .slice B ys.length d] w fun e w' => e = .returned (.tuple #[.slice none 0 0, .slice none 0 0, .bool false]) ∧ Below w.heap.size w w' := by
  have L0 := Lib.hid (((live_start w).add h).add h')
  have t0 : (((digs (val ys)).length : Int) == 0) = true := by rw [y0, digs_zero]; rfl
  clear h h' y0
  go_enter Tryd.func75, Tryd.ntmps75
  go_wp2_with fail
  refine Calls.mono (rtrim_l (xs := ys) (x := val ys) L0.out (by simp) rfl rfl (by omega)) ?_
  rintro e w1 ⟨A1, c1, rfl, h1⟩
  have L1 := Lib.hid h1
  clear h1
  go_wp2
  go_ret3
  exact ⟨rfl, L1.out.1⟩
set_option maxHeartbeats 2000000 in
set_option maxRecDepth 100000 in
theorem rdivmod_one (A B : Option Addr) (c d : Nat) (xs ys : List Nat) (w : World) (h : Dg w A c xs) (h' : Dg w B d ys) (hl : xs.length ≤ 100000) (hl' : ys.length ≤ 100000) (h1 : (digs (val ys)).length = 1) :
    Calls Tryd.prog 75 #[.slice A xs.length c, .slice B ys.length d] w fun e w' => ∃ A' c' B' d', e = .returned (.tuple #[.slice A' (digs (val xs / val ys)).length c', .slice B' (digs (val xs % val ys)).length d', .bool true]) ∧ Dg w' A' c' (digs (val xs / val ys)) ∧ Dg w' B' d' (digs (val xs % val ys)) ∧ Below w.heap.size w w' := by
  have L0 := Lib.hid (((live_start w).add h).add h')
  have t0 : (((digs (val ys)).length : Int) == 0) = false := by rw [h1]; rfl
  have t1 : (((digs (val ys)).length : Int) == 1) = true := by rw [h1]; rfl
  have vy := val_digs (val ys)
  have e2 : val ys = (digs (val ys))[0]?.getD 0 := by
    rcases hd : digs (val ys) with _ | ⟨z, _ | ⟨z', r⟩⟩
    · rw [hd] at h1; simp at h1
    · rw [hd] at vy; simp only [val] at vy; simp; omega
    · rw [hd] at h1; simp at h1
  have b2 : val ys < 4294967296 := by rw [e2]; exact getD_lt (ok_digs _) 0
  have b0 : 0 < val ys := by
    rcases Nat.eq_zero_or_pos (val ys) with h0 | h0
    · rw [h0, digs_zero] at h1; simp at h1
    · exact h0
  have E2 := Lib.hid e2
  have y1 : 0 < (digs (val ys)).length := by omega
  have Y1 := Lib.hid h1
  clear h h' h1 vy e2
  go_enter Tryd.func75, Tryd.ntmps75
  go_wp2_with fail
  refine Calls.mono (rtrim_l (xs := ys) (x := val ys) L0.out (by simp) rfl rfl (by omega)) ?_
  rintro e w1 ⟨A1, c1, rfl, h1⟩
  have L1 := Lib.hid h1
  obtain ⟨b, off, hB, hb, hcy⟩ := (L1.out.get (A := A1) (c := c1) (xs := digs (val ys)) (by simp)).2.2 y1
  have hc0 := hcy 0 y1
  rw [Nat.add_zero, ← E2.out] at hc0
  have HG := Lib.hid (rshort_any A c (val ys) xs w1 (L1.out.get (by simp)) (by omega) b0 b2)
  subst hB
  clear h1 hcy
  go_wp2_with fail
  refine HG.out.mono ?_
  rintro e w4 ⟨A4, c4, A5, c5, rfl, g4, g5, hb5⟩
  have G4 := Lib.hid g4
  have G5 := Lib.hid g5
  have HB := Lib.hid (L1.out.step hb5)
  clear g4 g5 hb5
  go_wp2
  go_ret3
  exact ⟨A4, c4, A5, c5, rfl, G4.out, G5.out, HB.out.1⟩
theorem rdivmod_any (A B : Option Addr) (c d : Nat) (xs ys : List Nat) (w : World) (h : Dg w A c xs) (h' : Dg w B d ys) (hl : xs.length ≤ 100000) (hl' : ys.length ≤ 100000) (y0 : val ys ≠ 0) :
    Calls Tryd.prog 75 #[.slice A xs.length c, .slice B ys.length d] w fun e w' => ∃ A' c' B' d', e = .returned (.tuple #[.slice A' (digs (val xs / val ys)).length c', .slice B' (digs (val xs % val ys)).length d', .bool true]) ∧ Dg w' A' c' (digs (val xs / val ys)) ∧ Dg w' B' d' (digs (val xs % val ys)) ∧ Below w.heap.size w w' := by
  by_cases h1 : (digs (val ys)).length = 1
  · exact rdivmod_one A B c d xs ys w h h' hl hl' h1
  · have h0 : (digs (val ys)).length ≠ 0 := fun e => y0 (digs_nil.1 e)
    exact rdivmod_long A B c d xs ys w h h' hl hl' (by omega)
section
variable {w0 w w' : World} {L : List (Option Addr × Nat × List Nat)} {A B : Option Addr} {c d n m : Nat} {xs ys : List Nat} {x y : Nat}
theorem rdivmod_l (hL : Live w0 w L) (h1 : (A, c, xs) ∈ L) (h2 : (B, d, ys) ∈ L) (hn : n = xs.length) (hm : m = ys.length) (hx : val xs = x) (hy : val ys = y) (b1 : xs.length ≤ 100000) (b2 : ys.length ≤ 100000) (y0 : y ≠ 0) :
    Calls Tryd.prog 75 #[.slice A n c, .slice B m d] w fun e w' => ∃ A' c' B' d', e = .returned (.tuple #[.slice A' (digs (x / y)).length c', .slice B' (digs (x % y)).length d', .bool true]) ∧ Live w0 w' ((B', d', digs (x % y)) :: (A', c', digs (x / y)) :: L) := by
  subst hn hm hx hy
  exact (rdivmod_any A B c d xs ys w (hL.get h1) (hL.get h2) b1 b2 y0).mono fun _ _ ⟨A', c', B', d', he, hd, hd', hb⟩ => ⟨A', c', B', d', he, ((hL.step hb).add hd).add hd'⟩
theorem rdivmod_l_no (hL : Live w0 w L) (h1 : (A, c, xs) ∈ L) (h2 : (B, d, ys) ∈ L) (hn : n = xs.length) (hm : m = ys.length) (hy : val ys = 0) (b2 : ys.length ≤ 100000) :
    Calls Tryd.prog 75 #[.slice A n c, .slice B m d] w fun e w' => e = .returned (.tuple #[.slice none 0 0, .slice none 0 0, .bool false]) ∧ Live w0 w' L := by
  subst hn hm
  exact (rdivmod_no A B c d xs ys w (hL.get h1) (hL.get h2) b2 hy).mono fun _ _ ⟨he, hb⟩ => ⟨he, hL.step hb⟩
end
/-- What stands between two bits of the reference's root. -/
structure Sq (x k s r : Nat) : Prop where
  eq : s * s + r = x
  lt : x < (s + 2 ^ k) * (s + 2 ^ k)
theorem Sq.start (x k : Nat) (h : blen x ≤ 2 * k) : Sq x k 0 x :=
  ⟨by omega, by rw [Nat.zero_add, ← Nat.pow_add]; exact Nat.lt_of_lt_of_le (blen_lt x) (Nat.pow_le_pow_right (by omega) (by omega))⟩
theorem sq_part (s k : Nat) : (s + 2 ^ k) * (s + 2 ^ k) = s * s + (s * 2 ^ 1 + 2 ^ k) * 2 ^ k := by
  rw [Nat.pow_one, Nat.add_mul s (2 ^ k) (s + 2 ^ k), Nat.mul_add, Nat.mul_add, Nat.add_mul (s * 2), Nat.mul_comm (2 ^ k) s, Nat.mul_assoc s 2]
  have : s * (2 * 2 ^ k) = 2 * (s * 2 ^ k) := by rw [Nat.mul_left_comm]
  omega
theorem Sq.yes {x k s r : Nat} (h : Sq x (k + 1) s r) (hp : (s * 2 ^ 1 + 2 ^ k) * 2 ^ k ≤ r) : Sq x k (s + 2 ^ k) (r - (s * 2 ^ 1 + 2 ^ k) * 2 ^ k) := by
  refine ⟨?_, ?_⟩
  · rw [sq_part]; have := h.eq; omega
  · have := h.lt; rw [Nat.pow_succ] at this; rw [show s + 2 ^ k + 2 ^ k = s + 2 ^ k * 2 by omega]; exact this
theorem Sq.no {x k s r : Nat} (h : Sq x (k + 1) s r) (hp : ¬ (s * 2 ^ 1 + 2 ^ k) * 2 ^ k ≤ r) : Sq x k s r := by
  refine ⟨h.eq, ?_⟩
  rw [sq_part]; have := h.eq; omega
theorem Sq.done {x s r : Nat} (h : Sq x 0 s r) : s = rt x ∧ r = x - rt x * rt x := by
  have h1 := h.eq
  have h2 := h.lt
  rw [Nat.pow_zero] at h2
  have h3 := rt_is (n := x) (s := s) (by omega) h2
  refine ⟨h3, ?_⟩
  rw [← h3]; omega
theorem Sq.small {x k s r : Nat} (h : Sq x k s r) : s ≤ x ∧ r ≤ x := by
  have h1 := h.eq
  refine ⟨?_, by omega⟩
  rcases Nat.eq_zero_or_pos s with h0 | h0
  · omega
  · have := Nat.le_mul_of_pos_left s h0; omega
set_option maxHeartbeats 8000000 in
set_option maxRecDepth 100000 in
theorem rsqrt_any (A : Option Addr) (c : Nat) (xs : List Nat) (w : World) (h : Dg w A c xs) (hl : xs.length ≤ 3000) :
    Calls Tryd.prog 77 #[.slice A xs.length c] w fun e w' => ∃ A' c' B' d', e = .returned (.tuple #[.slice A' (digs (rt (val xs))).length c', .slice B' (digs (val xs - rt (val xs) * rt (val xs))).length d']) ∧ Dg w' A' c' (digs (rt (val xs))) ∧ Dg w' B' d' (digs (val xs - rt (val xs) * rt (val xs))) ∧ Below w.heap.size w w' := by
  have L0 := Lib.hid ((live_start w).add h)
  have hb : blen (val xs) ≤ 32 * xs.length := bits_le _ _ (by have := val_lt h.2.1; rwa [show (4294967296 : Nat) ^ xs.length = 2 ^ (32 * xs.length) by rw [Nat.pow_mul]] at this)
  have lx := digs_len_le h.2.1
  obtain ⟨x, hx⟩ : ∃ x, val xs = x := ⟨_, rfl⟩
  have HX := Lib.hid hx
  rw [hx] at hb lx
  rw [hx]
  have hk : ∃ k : Nat, IntKind.i64.wrap (((blen x : Int) - 1).tdiv 2) = (k : Int) ∧ blen x ≤ 2 * (k + 1) ∧ k ≤ 48000 := by
    rcases Nat.eq_zero_or_pos (blen x) with h0 | h0
    · refine ⟨0, by rw [h0]; rfl, by omega, by omega⟩
    · refine ⟨(blen x - 1) / 2, ?_, by omega, by omega⟩
      rw [Int.tdiv_eq_ediv_of_nonneg (by omega)]
      rw [IntWalk.i64_in _ (by omega)]
      omega
  obtain ⟨k0, hk0, hk1, hk2⟩ := hk
  have HK := Lib.hid hk1
  clear h hx hk1
  go_enter Tryd.func77, Tryd.ntmps77
  go_wp2_with fail
  refine Calls.mono (rtrim_l (xs := xs) (x := x) L0.out (by simp) rfl HX.out (by omega)) ?_
  rintro e w1 ⟨A1, c1, rfl, h1⟩
  have L1 := Lib.hid h1
  clear h1
  go_wp2_with fail
  refine Calls.mono (rbits_l (xs := xs) (x := x) (q := (blen x : Int)) L1.out (by simp) rfl HX.out (by omega) rfl) ?_
  rintro e w2 ⟨rfl, h1⟩
  have L2 := Lib.hid h1
  clear h1
  have hs0 : (digs x).length ≤ 3000 := by omega
  go_wp2
  go_loopw [4, 5, 6] (fun sv rv i wr => ∃ (A3 B3 : Option Addr) (c3 d3 s r k : Nat) (z : Int), sv = .slice A3 (digs s).length c3 ∧ rv = .slice B3 (digs r).length d3 ∧ i = .int .i64 z ∧ z = (k : Int) - 1 ∧ k ≤ 48001 ∧ Hid (Sq x k s r) ∧
    Hid (Dg wr A3 c3 (digs s)) ∧ Hid (Dg wr B3 d3 (digs r)) ∧ Hid (Below w.heap.size w wr)) (fun _ _ i _ => (intOf i + 1).toNat)
  case atStart => exact ⟨none, A1, 0, c1, 0, x, k0 + 1, (k0 : Int), by rw [digs_zero]; rfl, rfl, rfl, by omega, by omega, Sq.start x _ HK.out, by rw [digs_zero]; exact Dg.nil_ _ _, L2.out.get (by simp), L2.out.1⟩
  case round =>
    obtain ⟨A3, B3, c3, d3, s, r, k, z, rfl, rfl, rfl, hz, hk, HS, D1, D2, HB⟩ := hrel
    have l1 := digs_len_mono _ _ HS.out.small.1
    have l2 := digs_len_mono _ _ HS.out.small.2
    rcases k with _ | k
    · obtain rfl : z = -1 := by omega
      obtain ⟨e1, e2⟩ := HS.out.done
      have E1 := Lib.hid e1
      have E2 := Lib.hid e2
      clear hz e1 e2
      go_wp2
      go_ret2
      rw [← E1.out]
      rw [← E1.out] at E2
      rw [← E2.out]
      exact ⟨A3, c3, B3, d3, rfl, D1.out, D2.out, HB.out⟩
    · obtain rfl : z = (k : Int) := by omega
      clear hz
      have L3 := Lib.hid (((live_start wr).add D1.out).add D2.out)
      go_wp2_with fail
      refine Calls.mono (rshl_l (xs := digs s) (x := s) (i := 1) (k := 1) L3.out (by simp) rfl (val_digs _) (by omega) rfl (by omega)) ?_
      rintro e w3 ⟨A4, c4, rfl, h1⟩
      have L4 := Lib.hid h1
      clear h1
      have len4 := digs_shl_len s 1
      go_wp2_with fail
      have L5 := Lib.hid (L4.out.new1 1 1 rfl (by omega))
      refine Calls.mono (rshl_l (xs := [1]) (x := 1) (i := (k : Int)) (k := k) L5.out (by simp) rfl (by simp [val]) (by simp) rfl (by omega)) ?_
      rw [Nat.one_mul]
      rintro e w5 ⟨A6, c6, rfl, h1⟩
      have L6 := Lib.hid h1
      clear h1
      have len6 := pow_digs_len k
      go_wp2_with fail
      refine Calls.mono (radd_l (xs := digs (s * 2 ^ 1)) (ys := digs (2 ^ k)) (x := s * 2 ^ 1) (y := 2 ^ k) L6.out (by simp) (by simp) rfl rfl (val_digs _) (val_digs _) (by omega) (by omega)) ?_
      rintro e w6 ⟨A7, c7, rfl, h1⟩
      have L7 := Lib.hid h1
      clear h1
      have len7 := digs_add_len (s * 2 ^ 1) (2 ^ k)
      have len8 := digs_shl_len (s * 2 ^ 1 + 2 ^ k) k
      have HPA := Lib.hid (Sq.yes (x := x) (k := k) (s := s) (r := r) HS.out)
      have HPB := Lib.hid (Sq.no (x := x) (k := k) (s := s) (r := r) HS.out)
      have hk9 : k / 32 ≤ 1500 := by omega
      generalize hT : s * 2 ^ 1 + 2 ^ k = T at *
      go_wp2_with fail
      refine Calls.mono (rshl_l (xs := digs T) (x := T) (i := (k : Int)) (k := k) L7.out (by simp) rfl (val_digs _) (by omega) rfl (by omega)) ?_
      rintro e w7 ⟨A8, c8, rfl, h1⟩
      have L8 := Lib.hid h1
      clear h1
      obtain ⟨q, hq⟩ : ∃ q, decide (T * 2 ^ k ≤ r) = q := ⟨_, rfl⟩
      have HQ := Lib.hid hq
      clear hq
      go_wp2_with fail
      refine Calls.mono (rsub_b (x := r) (y := T * 2 ^ k) L8.out (by simp) (by simp) (by omega) (by omega) HQ.out) ?_
      rintro e w8 ⟨A9, c9, rfl, h1, _⟩
      have L9 := Lib.hid h1
      clear h1
      rcases q with _ | _
      · go_wp2
        go_roundw
        case rel => exact ⟨A3, B3, c3, d3, s, r, k, (k : Int) - 1, rfl, rfl, rfl, rfl, by omega, HPB.out (of_decide_eq_false HQ.out), L9.out.get (by simp), L9.out.get (by simp), HB.out.trans (L9.out.1.mono HB.out.size)⟩
        case measure => simp [intOf]
      · go_wp2_with fail
        refine Calls.mono (radd_l (xs := digs s) (ys := digs (2 ^ k)) (x := s) (y := 2 ^ k) L9.out (by simp) (by simp) rfl rfl (val_digs _) (val_digs _) (by omega) (by omega)) ?_
        rintro e w9 ⟨A10, c10, rfl, h1⟩
        have L10 := Lib.hid h1
        clear h1
        go_wp2
        go_roundw
        case rel => exact ⟨A10, A9, c10, c9, s + 2 ^ k, r - T * 2 ^ k, k, (k : Int) - 1, rfl, rfl, rfl, rfl, by omega, HPA.out (of_decide_eq_true HQ.out), L10.out.get (by simp), L10.out.get (by simp), HB.out.trans (L10.out.1.mono HB.out.size)⟩
        case measure => simp [intOf]
section
variable {w0 w w' : World} {L : List (Option Addr × Nat × List Nat)} {A B : Option Addr} {c d n m : Nat} {xs ys : List Nat} {x y : Nat}
theorem rsqrt_l (hL : Live w0 w L) (h1 : (A, c, xs) ∈ L) (hn : n = xs.length) (hx : val xs = x) (b1 : xs.length ≤ 3000) :
    Calls Tryd.prog 77 #[.slice A n c] w fun e w' => ∃ A' c' B' d', e = .returned (.tuple #[.slice A' (digs (rt x)).length c', .slice B' (digs (x - rt x * rt x)).length d']) ∧ Live w0 w' ((B', d', digs (x - rt x * rt x)) :: (A', c', digs (rt x)) :: L) := by
  subst hn hx
  exact (rsqrt_any A c xs w (hL.get h1) b1).mono fun _ _ ⟨A', c', B', d', he, hd, hd', hb⟩ => ⟨A', c', B', d', he, ((hL.step hb).add hd).add hd'⟩
end
end Go.Proofs.YtaciohjobenipaaDoor
end

section
/-
  ref05: Div.
-/
namespace Go.Proofs.YtaciohjobenipaaDoor
open Go.RowKit
set_option linter.unusedSimpArgs false
set_option linter.unusedVariables false
set_option maxHeartbeats 1000000 in
set_option maxRecDepth 100000 in
theorem r5upmag_ {A : Option Addr} {c q N : Nat} {k : Int} {kn : Nat} {w : World} (h : Dg w A c (digs q)) (hl : (digs q).length ≤ 100000) (hk : k = (kn : Int)) (h1 : kn ≤ 300000) (hN : q * 2 ^ kn = N) :
    Calls Tryd.prog 74 #[.slice A (digs q).length c, .int .i64 k] w fun e w' => ∃ A' c', e = .returned (.slice A' (digs N).length c') ∧ Dg w' A' c' (digs N) ∧ Below w.heap.size w w' := by
  obtain ⟨z, hz⟩ : ∃ z : Int, (N : Int) = z := ⟨_, rfl⟩
  have hza : z.natAbs = N := by omega
  have HU := Lib.hid (fun W (hW : Dg W A c (digs q)) => r5up_any A c false q kn z W hW hl h1 (by rw [hN, ← hz]; rfl))
  have H := Lib.hid h
  have HZ := Lib.hid hza
  subst hk
  clear h hN hz hza
  go_enter Tryd.func74, Tryd.ntmps74
  go_wp2_with fail
  refine (HU.out _ H.out).mono ?_
  rintro e w1 ⟨A1, c1, rfl, hd, hb⟩
  have HD := Lib.hid hd
  have HB := Lib.hid hb
  clear hd hb
  have hfd : ∀ W : World, (Instr.field 24 (.agg #[.bool (decide (z < 0)), .slice A1 (digs z.natAbs).length c1]) 1).run Tryd.prog W = .ok (.slice A1 (digs z.natAbs).length c1) W := fun _ => by kernel_rfl
  go_wp2
  go_ret
  have hd := HD.out
  have e := HZ.out
  rw [e] at hd
  exact ⟨A1, c1, by rw [e]; rfl, hd, HB.out⟩
theorem rdivmod_dU {A B : Option Addr} {c d N n : Nat} {w : World} (h : Dg w A c (digs N)) (h' : Dg w B d (digs n)) (hl : (digs N).length ≤ 100000) (hl' : (digs n).length ≤ 100000) (n0 : n ≠ 0) :
    Calls Tryd.prog 75 #[.slice A (digs N).length c, .slice B (digs n).length d] w fun e w' => ∃ A' c' B' d', e = .returned (.tuple #[.slice A' (digs (N / n)).length c', .slice B' (digs (N % n)).length d', .bool true]) ∧ Dg w' A' c' (digs (N / n)) ∧ Dg w' B' d' (digs (N % n)) ∧ Below w.heap.size w w' := by
  have := rdivmod_any A B c d (digs N) (digs n) w h h' hl hl' (by rw [val_digs]; exact n0)
  rw [val_digs, val_digs] at this; exact this
theorem rsqrt_dU {A : Option Addr} {c N : Nat} {w : World} (h : Dg w A c (digs N)) (hl : (digs N).length ≤ 3000) :
    Calls Tryd.prog 77 #[.slice A (digs N).length c] w fun e w' => ∃ A' c' B' d', e = .returned (.tuple #[.slice A' (digs (rt N)).length c', .slice B' (digs (N - rt N * rt N)).length d']) ∧ Dg w' A' c' (digs (rt N)) ∧ Dg w' B' d' (digs (N - rt N * rt N)) ∧ Below w.heap.size w w' := by
  have := rsqrt_any A c (digs N) w h hl
  rw [val_digs] at this; exact this

set_option maxHeartbeats 4000000 in
set_option maxRecDepth 100000 in
theorem r5div_n (A B : Option Addr) (c d : Nat) (m n x y : Int) (P M E : Int) (up : Bool) (w : World) (h : Dg w A c (digs m.natAbs)) (h' : Dg w B d (digs n.natAbs)) (hl : (digs m.natAbs).length ≤ 100) (hl' : (digs n.natAbs).length ≤ 100) (r1 : Rt m x) (r2 : Rt n y) {p : Nat} (hP : (p : Int) = P) (p2 : 2 ≤ p) (p4 : p ≤ 400) (n0 : n = 0):
    Calls Tryd.prog 34 #[.agg #[.bool (decide (m < 0)), .slice A (digs m.natAbs).length c, .int .i64 x], .agg #[.bool (decide (n < 0)), .slice B (digs n.natAbs).length d, .int .i64 y], .int .i64 P, .bool up] w fun e w' => Ye 0 0 3 w e w' := by
  have HR1 := Lib.hid r1
  have HR2 := Lib.hid r2
  have lx := Lib.hid hl
  have ly := Lib.hid hl'
  have HPR := Lib.hid (precB_in (P := P) (by omega) (by omega))
  have t2 : ((((digs n.natAbs).length : Nat) : Int) == 0) = true := by rw [n0, show digs (0 : Int).natAbs = [] from digs_zero]; rfl
  have L0 := Lib.hid (((live_start w).add h).add h')
  clear h h' hl hl' r1 r2 hP p2 p4 n0
  go_enter Tryd.func34, Tryd.ntmps34
  go_wp2_with fail
  obtain ⟨v1, hW, hb, Rx_1, Ry_1, Rr_1⟩ := new3 w (.cells #[.bool (decide (m < 0)), .slice A (digs m.natAbs).length c, .int .i64 x] 26) (.cells #[.bool (decide (n < 0)), .slice B (digs n.natAbs).length d, .int .i64 y] 26) (.cells #[.bool false, .slice none 0 0, .int .i64 0] 26)
  rw [← hW]
  have L1 := ls L0 hb
  have Gx := gl0 L0.out
  have Gy := gl1 L0.out
  have Nxy : w.heap.size < w.heap.size + 1 := by omega
  have Gr := gl2 L0.out
  have Nxr : w.heap.size < w.heap.size + 1 + 1 := by omega
  have Nyr : w.heap.size + 1 < w.heap.size + 1 + 1 := by omega
  clear hW hb
  refine (r5right_t (L1.out.get (A := A) (c := c) (xs := digs m.natAbs) (by simp)) (Nat.le_trans lx.out (by omega)) HR1.out).mono ?_
  rintro e w2 ⟨rfl, hb⟩
  have L2 := ls L1 hb
  have Rx_2 := co Rx_1 hb
  have Ry_2 := co Ry_1 hb
  have Rr_2 := co Rr_1 hb
  clear hb 
  obtain ⟨fy0, zy0, fy1, zy1, fy2, zy2, xy⟩ := ly3 Ry_2.out
  go_wp2_with fail
  refine (r5right_t (L2.out.get (A := B) (c := d) (xs := digs n.natAbs) (by simp)) (Nat.le_trans ly.out (by omega)) HR2.out).mono ?_
  rintro e w3 ⟨rfl, hb⟩
  have L3 := ls L2 hb
  clear fy0 zy0 fy1 zy1 fy2 zy2 xy
  have Rx_3 := co Rx_2 hb
  have Ry_3 := co Ry_2 hb
  have Rr_3 := co Rr_2 hb
  clear hb 
  go_wp2_with fail
  refine (r5prec P _ HPR.out).mono ?_
  rintro e w4 ⟨rfl, rfl⟩
  obtain ⟨fx0, zx0, fx1, zx1, fx2, zx2, xx⟩ := ly3 Rx_3.out
  obtain ⟨fy0, zy0, fy1, zy1, fy2, zy2, xy⟩ := ly3 Ry_3.out
  obtain ⟨fr0, zr0, fr1, zr1, fr2, zr2, xr⟩ := ly3 Rr_3.out
  go_wp2
  refine bodyPost_ret (v := .tuple #[.agg #[.bool false, .slice none 0 0, .int .i64 0], .int .i64 3]) (by simp [results, Tryd.results34, go_sem, fx0, fx1, fx2, fy0, fy1, fy2, fr0, fr1, fr2]) rfl ?_
  exact zero_ye (fin3 L3.out Rr_3.out noint3 Gr).1

set_option maxHeartbeats 4000000 in
set_option maxRecDepth 100000 in
theorem r5div_z (A B : Option Addr) (c d : Nat) (m n x y : Int) (P M E : Int) (up : Bool) (w : World) (h : Dg w A c (digs m.natAbs)) (h' : Dg w B d (digs n.natAbs)) (hl : (digs m.natAbs).length ≤ 100) (hl' : (digs n.natAbs).length ≤ 100) (r1 : Rt m x) (r2 : Rt n y) {p : Nat} (hP : (p : Int) = P) (p2 : 2 ≤ p) (p4 : p ≤ 400) (m0 : m = 0) (n0 : n ≠ 0):
    Calls Tryd.prog 34 #[.agg #[.bool (decide (m < 0)), .slice A (digs m.natAbs).length c, .int .i64 x], .agg #[.bool (decide (n < 0)), .slice B (digs n.natAbs).length d, .int .i64 y], .int .i64 P, .bool up] w fun e w' => Ye 0 0 0 w e w' := by
  have HR1 := Lib.hid r1
  have HR2 := Lib.hid r2
  have lx := Lib.hid hl
  have ly := Lib.hid hl'
  have HPR := Lib.hid (precB_in (P := P) (by omega) (by omega))
  have t2 : ((((digs n.natAbs).length : Nat) : Int) == 0) = false := beq_eq_false_iff_ne.2 (fun e => n0 (by have := digs_nil.1 (show (digs n.natAbs).length = 0 by omega); omega))
  have t1 : ((((digs m.natAbs).length : Nat) : Int) == 0) = true := by rw [m0, show digs (0 : Int).natAbs = [] from digs_zero]; rfl
  have L0 := Lib.hid (((live_start w).add h).add h')
  clear h h' hl hl' r1 r2 hP p2 p4 n0 m0
  go_enter Tryd.func34, Tryd.ntmps34
  go_wp2_with fail
  obtain ⟨v1, hW, hb, Rx_1, Ry_1, Rr_1⟩ := new3 w (.cells #[.bool (decide (m < 0)), .slice A (digs m.natAbs).length c, .int .i64 x] 26) (.cells #[.bool (decide (n < 0)), .slice B (digs n.natAbs).length d, .int .i64 y] 26) (.cells #[.bool false, .slice none 0 0, .int .i64 0] 26)
  rw [← hW]
  have L1 := ls L0 hb
  have Gx := gl0 L0.out
  have Gy := gl1 L0.out
  have Nxy : w.heap.size < w.heap.size + 1 := by omega
  have Gr := gl2 L0.out
  have Nxr : w.heap.size < w.heap.size + 1 + 1 := by omega
  have Nyr : w.heap.size + 1 < w.heap.size + 1 + 1 := by omega
  clear hW hb
  refine (r5right_t (L1.out.get (A := A) (c := c) (xs := digs m.natAbs) (by simp)) (Nat.le_trans lx.out (by omega)) HR1.out).mono ?_
  rintro e w2 ⟨rfl, hb⟩
  have L2 := ls L1 hb
  have Rx_2 := co Rx_1 hb
  have Ry_2 := co Ry_1 hb
  have Rr_2 := co Rr_1 hb
  clear hb 
  obtain ⟨fy0, zy0, fy1, zy1, fy2, zy2, xy⟩ := ly3 Ry_2.out
  go_wp2_with fail
  refine (r5right_t (L2.out.get (A := B) (c := d) (xs := digs n.natAbs) (by simp)) (Nat.le_trans ly.out (by omega)) HR2.out).mono ?_
  rintro e w3 ⟨rfl, hb⟩
  have L3 := ls L2 hb
  clear fy0 zy0 fy1 zy1 fy2 zy2 xy
  have Rx_3 := co Rx_2 hb
  have Ry_3 := co Ry_2 hb
  have Rr_3 := co Rr_2 hb
  clear hb 
  go_wp2_with fail
  refine (r5prec P _ HPR.out).mono ?_
  rintro e w4 ⟨rfl, rfl⟩
  obtain ⟨fx0, zx0, fx1, zx1, fx2, zx2, xx⟩ := ly3 Rx_3.out
  obtain ⟨fy0, zy0, fy1, zy1, fy2, zy2, xy⟩ := ly3 Ry_3.out
  obtain ⟨fr0, zr0, fr1, zr1, fr2, zr2, xr⟩ := ly3 Rr_3.out
  go_wp2
  refine bodyPost_ret (v := .tuple #[.agg #[.bool false, .slice none 0 0, .int .i64 0], .int .i64 0]) (by simp [results, Tryd.results34, go_sem, fx0, fx1, fx2, fy0, fy1, fy2, fr0, fr1, fr2]) rfl ?_
  exact zero_ye (fin3 L3.out Rr_3.out noint3 Gr).1

set_option maxHeartbeats 4000000 in
set_option maxRecDepth 100000 in
theorem r5div_t (A B : Option Addr) (c d : Nat) (m n x y : Int) (P M E : Int) (up : Bool) (w : World) (h : Dg w A c (digs m.natAbs)) (h' : Dg w B d (digs n.natAbs)) (hl : (digs m.natAbs).length ≤ 100) (hl' : (digs n.natAbs).length ≤ 100) (r1 : Rt m x) (r2 : Rt n y) {p : Nat} (hP : (p : Int) = P) (p2 : 2 ≤ p) (p4 : p ≤ 400) (m0 : m ≠ 0) (n0 : n ≠ 0) (hs : RdOf (dv m x / dv n y) p up M E) {K F V : Int} (hq : tot M E = (K, F, V)):
    Calls Tryd.prog 34 #[.agg #[.bool (decide (m < 0)), .slice A (digs m.natAbs).length c, .int .i64 x], .agg #[.bool (decide (n < 0)), .slice B (digs n.natAbs).length d, .int .i64 y], .int .i64 P, .bool up] w fun e w' => Ye K F V w e w' := by
  have HR1 := Lib.hid r1
  have HR2 := Lib.hid r2
  have lx := Lib.hid hl
  have ly := Lib.hid hl'
  have HPR := Lib.hid (precB_in (P := P) (by omega) (by omega))
  have t2 : ((((digs n.natAbs).length : Nat) : Int) == 0) = false := beq_eq_false_iff_ne.2 (fun e => n0 (by have := digs_nil.1 (show (digs n.natAbs).length = 0 by omega); omega))
  have t1 : ((((digs m.natAbs).length : Nat) : Int) == 0) = false := beq_eq_false_iff_ne.2 (fun e => m0 (by have := digs_nil.1 (show (digs m.natAbs).length = 0 by omega); omega))
  have x0 := r1.2.1
  have x1 := r1.2.2
  have y0 := r2.2.1
  have y1 := r2.2.2
  have HQ := Lib.hid hq
  have HP4 := Lib.hid p4
  have b1 : blen m.natAbs ≤ 3200 := bl_bd (k := 100) hl
  have b2 : blen n.natAbs ≤ 3200 := bl_bd (k := 100) hl'
  obtain ⟨z1, hz1⟩ : ∃ z : Int, (blen m.natAbs : Int) = z := ⟨_, rfl⟩
  obtain ⟨z2, hz2⟩ : ∃ z : Int, (blen n.natAbs : Int) = z := ⟨_, rfl⟩
  obtain ⟨kn, hkn⟩ : ∃ k : Nat, k = (max 0 (P + 2 + z2 - z1)).toNat := ⟨_, rfl⟩
  obtain ⟨k, hk⟩ : ∃ k : Int, max 0 (P + 2 + z2 - z1) = k := ⟨_, rfl⟩
  have hkk : k = (kn : Int) := by omega
  have hkb : kn ≤ 4000 := by omega
  have hkp : p + blen n.natAbs ≤ blen m.natAbs + kn := by omega
  have hkp1 : p + 1 + blen n.natAbs ≤ blen m.natAbs + kn := by omega
  have hlN := len_pow (v := m.natAbs) (n := kn) (k := 100) hl
  obtain ⟨t, ht⟩ : ∃ t, (decide (m < 0) != decide (n < 0)) = t := ⟨_, rfl⟩
  obtain ⟨aw, haw⟩ : ∃ a, (up != t) = a := ⟨_, rfl⟩
  obtain ⟨mo, hmo⟩ : ∃ t, decide (m.natAbs * 2 ^ kn % n.natAbs ≠ 0) = t := ⟨_, rfl⟩
  have hkept := div_kept (m := m) (n := n) (x := x) (y := y) (k := kn) (p := p) (up := up) (more := mo) m0 n0 (by omega) hkp hmo.symm
  rw [ht, haw] at hkept
  have hu := RdOf.uniq hkept.2 hs
  have hB := (div_kept (m := m) (n := n) (x := x) (y := y) (k := kn) (p := p + 1) (up := up) (more := mo) m0 n0 (by omega) hkp1 hmo.symm).1
  obtain ⟨N, hN⟩ : ∃ N, m.natAbs * 2 ^ kn = N := ⟨_, rfl⟩
  rw [hN] at hlN hu hB hmo
  have hlQ := digs_len_mono _ _ (Nat.div_le_self N n.natAbs)
  have HMO := Lib.hid (show decide (0 < (digs (N % n.natAbs)).length) = mo by rw [← hmo, decide_eq_decide]; have := @digs_nil (N % n.natAbs); omega)
  obtain ⟨Q, hQ⟩ : ∃ Q, N / n.natAbs = Q := ⟨_, rfl⟩
  obtain ⟨R, hR⟩ : ∃ R, N % n.natAbs = R := ⟨_, rfl⟩
  rw [hQ] at hu hB hlQ
  rw [hR] at HMO
  have DM := Lib.hid (fun (A B : Option Addr) (c d : Nat) W (h : Dg W A c (digs N)) (h' : Dg W B d (digs n.natAbs)) => rdivmod_dU h h' (by omega) (by omega) (by omega))
  rw [hQ, hR] at DM
  have hM := hu.1
  have hE := hu.2
  rw [← hkk] at hE
  have kl := digs_len_mono _ _ (kept_le Q p mo aw)
  have kl1 := digs_add_len Q 1
  have l1 : (digs 1).length = 1 := by rw [digs_one (by omega) (by omega)]; rfl
  have bQ : blen Q ≤ 32 * 227 := by have := bl_bd (m := (Q : Int)) (k := 227) (by rw [Int.natAbs_natCast]; omega); rwa [Int.natAbs_natCast] at this
  have BE := nx_bdU (z := sg t (kept Q p mo aw)) (y := x - y - k + (blen Q - p : Nat)) (by rw [sg_abs]; omega) (by omega) (by omega)
  rw [hE] at BE
  have BE := Lib.hid BE
  have LM := nm_len (sg t (kept Q p mo aw))
  rw [hM, sg_abs] at LM
  have LM := Lib.hid (show (digs M.natAbs).length ≤ 100000 by omega)
  have HB := Lib.hid (show p < blen Q by omega)
  have HM := Lib.hid hM
  have HE := Lib.hid hE
  have HN := Lib.hid hN
  have HKK := Lib.hid hkk
  have HKB := Lib.hid (show kn ≤ 300000 by omega)
  have HP2 := Lib.hid hP
  have HZ1 := Lib.hid hz1
  have HZ2 := Lib.hid hz2
  have LQ := Lib.hid (show (digs Q).length ≤ 3000 by omega)
  have LN := Lib.hid hlN
  obtain ⟨s0, hs0⟩ : ∃ s, P + 2 = s := ⟨_, rfl⟩
  obtain ⟨s1, hs1⟩ : ∃ s, s0 + z2 = s := ⟨_, rfl⟩
  obtain ⟨s2, hs2⟩ : ∃ s, s1 - z1 = s := ⟨_, rfl⟩
  have ws0 : IntKind.i64.wrap (P + 2) = s0 := by rw [IntWalk.i64_in _ (by omega)]; exact hs0
  have ws1 : IntKind.i64.wrap (s0 + z2) = s1 := by rw [IntWalk.i64_in _ (by omega)]; exact hs1
  have ws2 : IntKind.i64.wrap (s1 - z1) = s2 := by rw [IntWalk.i64_in _ (by omega)]; exact hs2
  have hmax : max 0 s2 = k := by rw [← hk, ← hs2, ← hs1, ← hs0]
  have WS := Lib.hid (And.intro ws0 (And.intro ws1 (And.intro ws2 hmax)))
  have k0 : 0 ≤ k := by omega
  have k9 : k ≤ 4000 := by omega
  have HT2 := Lib.hid ht
  have HAW := Lib.hid haw
  have YB := Lib.hid (show -900000 ≤ x - y - k ∧ x - y - k ≤ 900000 by omega)
  have L0 := Lib.hid (((live_start w).add h).add h')
  clear h h' hl hl' r1 r2 hP p2 p4 n0 m0 hz1 hz2 hkn hk hkk hkb hkp hkp1 hlN ht haw hmo hkept hu hB hN hlQ hQ hR hs0 hs1 hs2 b1 b2 hs hq hM hE kl kl1 l1 bQ ws0 ws1 ws2 hmax
  go_enter Tryd.func34, Tryd.ntmps34
  go_wp2_with fail
  obtain ⟨v1, hW, hb, Rx_1, Ry_1, Rr_1⟩ := new3 w (.cells #[.bool (decide (m < 0)), .slice A (digs m.natAbs).length c, .int .i64 x] 26) (.cells #[.bool (decide (n < 0)), .slice B (digs n.natAbs).length d, .int .i64 y] 26) (.cells #[.bool false, .slice none 0 0, .int .i64 0] 26)
  rw [← hW]
  have L1 := ls L0 hb
  have Gx := gl0 L0.out
  have Gy := gl1 L0.out
  have Nxy : w.heap.size < w.heap.size + 1 := by omega
  have Gr := gl2 L0.out
  have Nxr : w.heap.size < w.heap.size + 1 + 1 := by omega
  have Nyr : w.heap.size + 1 < w.heap.size + 1 + 1 := by omega
  clear hW hb
  refine (r5right_t (L1.out.get (A := A) (c := c) (xs := digs m.natAbs) (by simp)) (Nat.le_trans lx.out (by omega)) HR1.out).mono ?_
  rintro e w2 ⟨rfl, hb⟩
  have L2 := ls L1 hb
  have Rx_2 := co Rx_1 hb
  have Ry_2 := co Ry_1 hb
  have Rr_2 := co Rr_1 hb
  clear hb 
  obtain ⟨fy0, zy0, fy1, zy1, fy2, zy2, xy⟩ := ly3 Ry_2.out
  go_wp2_with fail
  refine (r5right_t (L2.out.get (A := B) (c := d) (xs := digs n.natAbs) (by simp)) (Nat.le_trans ly.out (by omega)) HR2.out).mono ?_
  rintro e w3 ⟨rfl, hb⟩
  have L3 := ls L2 hb
  clear fy0 zy0 fy1 zy1 fy2 zy2 xy
  have Rx_3 := co Rx_2 hb
  have Ry_3 := co Ry_2 hb
  have Rr_3 := co Rr_2 hb
  clear hb 
  go_wp2_with fail
  refine (r5prec P _ HPR.out).mono ?_
  rintro e w4 ⟨rfl, rfl⟩
  obtain ⟨fx0, zx0, fx1, zx1, fx2, zx2, xx⟩ := ly3 Rx_3.out
  obtain ⟨fy0, zy0, fy1, zy1, fy2, zy2, xy⟩ := ly3 Ry_3.out
  go_wp2_with fail
  have ws0 := WS.out.1
  have ws1 := WS.out.2.1
  have ws2 := WS.out.2.2.1
  have hmax := WS.out.2.2.2
  clear fx0 zx0 fx1 zx1 fx2 zx2 xx fy0 zy0 fy1 zy1 fy2 zy2 xy
  obtain ⟨fx0, zx0, fx1, zx1, fx2, zx2, xx⟩ := ly3 Rx_3.out
  obtain ⟨fy0, zy0, fy1, zy1, fy2, zy2, xy⟩ := ly3 Ry_3.out
  have KD := Lib.hid (bd0 w3)
  have LD := ls L3 KD.out
  go_region_held3 (fun w' => ∀ b o, b < w3.heap.size → w'.cell? ⟨b, o, none⟩ = w3.cell? ⟨b, o, none⟩)
    (first | with_reducible exact (bcell KD.out).1 | with_reducible exact (bcell K6.out).1 | with_reducible exact (bcell K7.out).1)
    (first
      | (go_at_call_of 73 B; (with_reducible refine (rbits_z (LD.out.get (A := B) (c := d) (xs := digs n.natAbs) (by simp)) (Nat.le_trans ly.out (by omega)) HZ2.out).mono ?_); rintro e w6 ⟨rfl, hb⟩; (have K6 := bt KD hb); (have L6 := Lib.hid (LD.out.step hb)); clear hb )
      | (go_at_call_of 73 A; (with_reducible refine (rbits_z (L6.out.get (A := A) (c := c) (xs := digs m.natAbs) (by simp)) (Nat.le_trans lx.out (by omega)) HZ1.out).mono ?_); rintro e w7 ⟨rfl, hb⟩; (have K7 := bt K6 hb); (have L7 := Lib.hid (L6.out.step hb)); clear hb ))
  rename_i hHeld
  clear hHeld
  clear fx0 zx0 fx1 zx1 fx2 zx2 xx fy0 zy0 fy1 zy1 fy2 zy2 xy
  have Rx_7 := co Rx_3 K7.out
  have Ry_7 := co Ry_3 K7.out
  have Rr_7 := co Rr_3 K7.out
  clear KD LD
  clear ws0 ws1 ws2 hmax
  obtain ⟨fx0, zx0, fx1, zx1, fx2, zx2, xx⟩ := ly3 Rx_7.out
  go_wp2_with fail
  refine (r5upmag_ (N := N) (L7.out.get (A := A) (c := c) (xs := digs m.natAbs) (by simp)) (Nat.le_trans lx.out (by omega)) HKK.out HKB.out HN.out).mono ?_
  rintro e w8 ⟨A8, c8, rfl, hd, hb⟩
  have L8 := la L7 hb hd
  clear fx0 zx0 fx1 zx1 fx2 zx2 xx
  have Rx_8 := co Rx_7 hb
  have Ry_8 := co Ry_7 hb
  have Rr_8 := co Rr_7 hb
  clear hb hd
  obtain ⟨fy0, zy0, fy1, zy1, fy2, zy2, xy⟩ := ly3 Ry_8.out
  go_wp2_with fail
  refine (DM.out _ _ _ _ _ (L8.out.get (A := A8) (c := c8) (xs := digs N) (by simp)) (L8.out.get (A := B) (c := d) (xs := digs n.natAbs) (by simp))).mono ?_
  rintro e w9 ⟨A9, c9, B9, d9, rfl, hd, hd', hb⟩
  have L9 := Lib.hid (((L8.out.step hb).add hd).add hd')
  clear fy0 zy0 fy1 zy1 fy2 zy2 xy
  have Rx_9 := co Rx_8 hb
  have Ry_9 := co Ry_8 hb
  have Rr_9 := co Rr_8 hb
  clear hb hd hd'
  have HT3 : (!(decide (m < 0) == decide (n < 0))) = t := HT2.out
  have HMO2 := HMO.out
  have HAW2 : (!(up == t)) = aw := HAW.out
  obtain ⟨fx0, zx0, fx1, zx1, fx2, zx2, xx⟩ := ly3 Rx_9.out
  obtain ⟨fy0, zy0, fy1, zy1, fy2, zy2, xy⟩ := ly3 Ry_9.out
  go_wp2_with fail
  refine (r5cut_any (q := Q) (L9.out.get (A := A9) (c := c9) (xs := digs Q) (by simp)) LQ.out HP2.out HP4.out (.inl HB.out) YB.out.1 YB.out.2 HM.out HE.out).mono ?_
  rintro e w10 ⟨A10, c10, rfl, hd, hb⟩
  have L10 := la L9 hb hd
  clear fx0 zx0 fx1 zx1 fx2 zx2 xx fy0 zy0 fy1 zy1 fy2 zy2 xy
  have Rx_10 := co Rx_9 hb
  have Ry_10 := co Ry_9 hb
  have Rr_10 := co Rr_9 hb
  clear hb hd
  clear HT3 HMO2 HAW2
  go_wp2_with fail
  refine (r5told (L10.out.get (A := A10) (c := c10) (xs := digs M.natAbs) (by simp)) LM.out BE.out.1 BE.out.2 HQ.out).mono ?_
  rintro e w11 ⟨A11, c11, rfl, hd, hb⟩
  have L11 := la L10 hb hd
  have Rx_11 := co Rx_10 hb
  have Ry_11 := co Ry_10 hb
  have Rr_11 := co Rr_10 hb
  clear hb hd
  obtain ⟨fr0, zr0, fr1, zr1, fr2, zr2, xr⟩ := ly3 Rr_11.out
  go_wp2
  refine bodyPost_ret (v := .tuple #[.agg #[.bool (decide (K < 0)), .slice A11 (digs K.natAbs).length c11, .int .i64 F], .int .i64 V]) (by simp [results, Tryd.results34, go_sem, fr0, fr1, fr2]) rfl ?_
  
  refine ⟨A11, c11, rfl, ?_, ?_⟩
  · exact (fin3 L11.out Rr_11.out noint3 Gr).get (A := A11) (c := c11) (xs := digs K.natAbs) (by simp)
  · exact (fin3 L11.out Rr_11.out noint3 Gr).1

set_option maxHeartbeats 4000000 in
set_option maxRecDepth 100000 in
theorem r5div_p (A B : Option Addr) (c d : Nat) (s r : Bool) (xs ys : List Nat) (x y P : Int) (up : Bool) (w : World) (h : Dg w A c xs) (h' : Dg w B d ys) (hl : xs.length ≤ 9223372036854775807) (hl' : ys.length ≤ 9223372036854775807) (hp : dyR s xs x = true) (hq : dyR r ys y = true) (hk : precB P = false):
    Calls Tryd.prog 34 #[.agg #[.bool s, .slice A xs.length c, .int .i64 x], .agg #[.bool r, .slice B ys.length d, .int .i64 y], .int .i64 P, .bool up] w fun e w' => Ye 0 0 1 w e w' := by
  have lx := Lib.hid hl
  have ly := Lib.hid hl'
  have HP := Lib.hid hp
  have HQ := Lib.hid hq
  have HK := Lib.hid hk
  have L0 := Lib.hid (((live_start w).add h).add h')
  clear h h' hl hl' hp hq hk
  go_enter Tryd.func34, Tryd.ntmps34
  go_wp2_with fail
  obtain ⟨v1, hW, hb, Rx_1, Ry_1, Rr_1⟩ := new3 w (.cells #[.bool s, .slice A xs.length c, .int .i64 x] 26) (.cells #[.bool r, .slice B ys.length d, .int .i64 y] 26) (.cells #[.bool false, .slice none 0 0, .int .i64 0] 26)
  rw [← hW]
  have L1 := ls L0 hb
  have Gx := gl0 L0.out
  have Gy := gl1 L0.out
  have Nxy : w.heap.size < w.heap.size + 1 := by omega
  have Gr := gl2 L0.out
  have Nxr : w.heap.size < w.heap.size + 1 + 1 := by omega
  have Nyr : w.heap.size + 1 < w.heap.size + 1 + 1 := by omega
  clear hW hb
  refine (r5right_any (L1.out.get (A := A) (c := c) (xs := xs) (by simp)) lx.out HP.out).mono ?_
  rintro e w2 ⟨rfl, hb⟩
  have L2 := ls L1 hb
  have Rx_2 := co Rx_1 hb
  have Ry_2 := co Ry_1 hb
  have Rr_2 := co Rr_1 hb
  clear hb 
  obtain ⟨fy0, zy0, fy1, zy1, fy2, zy2, xy⟩ := ly3 Ry_2.out
  go_wp2_with fail
  refine (r5right_any (L2.out.get (A := B) (c := d) (xs := ys) (by simp)) ly.out HQ.out).mono ?_
  rintro e w3 ⟨rfl, hb⟩
  have L3 := ls L2 hb
  clear fy0 zy0 fy1 zy1 fy2 zy2 xy
  have Rx_3 := co Rx_2 hb
  have Ry_3 := co Ry_2 hb
  have Rr_3 := co Rr_2 hb
  clear hb 
  go_wp2_with fail
  refine (r5prec P _ HK.out).mono ?_
  rintro e w4 ⟨rfl, rfl⟩
  obtain ⟨fr0, zr0, fr1, zr1, fr2, zr2, xr⟩ := ly3 Rr_3.out
  go_wp2
  refine bodyPost_ret (v := .tuple #[.agg #[.bool false, .slice none 0 0, .int .i64 0], .int .i64 1]) (by simp [results, Tryd.results34, go_sem, fr0, fr1, fr2]) rfl ?_
  exact zero_ye (fin3 L3.out Rr_3.out noint3 Gr).1

set_option maxHeartbeats 4000000 in
set_option maxRecDepth 100000 in
theorem r5div_ff (A B : Option Addr) (c d : Nat) (s r : Bool) (xs ys : List Nat) (x y P : Int) (up : Bool) (w : World) (h : Dg w A c xs) (h' : Dg w B d ys) (hl : xs.length ≤ 9223372036854775807) (hl' : ys.length ≤ 9223372036854775807) (hp : dyR s xs x = false) (hq : dyR r ys y = false):
    Calls Tryd.prog 34 #[.agg #[.bool s, .slice A xs.length c, .int .i64 x], .agg #[.bool r, .slice B ys.length d, .int .i64 y], .int .i64 P, .bool up] w fun e w' => Ye 0 0 1 w e w' := by
  have lx := Lib.hid hl
  have ly := Lib.hid hl'
  have HP := Lib.hid hp
  have HQ := Lib.hid hq
  have L0 := Lib.hid (((live_start w).add h).add h')
  clear h h' hl hl' hp hq
  go_enter Tryd.func34, Tryd.ntmps34
  go_wp2_with fail
  obtain ⟨v1, hW, hb, Rx_1, Ry_1, Rr_1⟩ := new3 w (.cells #[.bool s, .slice A xs.length c, .int .i64 x] 26) (.cells #[.bool r, .slice B ys.length d, .int .i64 y] 26) (.cells #[.bool false, .slice none 0 0, .int .i64 0] 26)
  rw [← hW]
  have L1 := ls L0 hb
  have Gx := gl0 L0.out
  have Gy := gl1 L0.out
  have Nxy : w.heap.size < w.heap.size + 1 := by omega
  have Gr := gl2 L0.out
  have Nxr : w.heap.size < w.heap.size + 1 + 1 := by omega
  have Nyr : w.heap.size + 1 < w.heap.size + 1 + 1 := by omega
  clear hW hb
  refine (r5right_any (L1.out.get (A := A) (c := c) (xs := xs) (by simp)) lx.out HP.out).mono ?_
  rintro e w2 ⟨rfl, hb⟩
  have L2 := ls L1 hb
  have Rx_2 := co Rx_1 hb
  have Ry_2 := co Ry_1 hb
  have Rr_2 := co Rr_1 hb
  clear hb 
  obtain ⟨fy0, zy0, fy1, zy1, fy2, zy2, xy⟩ := ly3 Ry_2.out
  go_wp2_with fail
  refine (r5right_any (L2.out.get (A := B) (c := d) (xs := ys) (by simp)) ly.out HQ.out).mono ?_
  rintro e w3 ⟨rfl, hb⟩
  have L3 := ls L2 hb
  clear fy0 zy0 fy1 zy1 fy2 zy2 xy
  have Rx_3 := co Rx_2 hb
  have Ry_3 := co Ry_2 hb
  have Rr_3 := co Rr_2 hb
  clear hb 
  obtain ⟨fr0, zr0, fr1, zr1, fr2, zr2, xr⟩ := ly3 Rr_3.out
  go_wp2
  refine bodyPost_ret (v := .tuple #[.agg #[.bool false, .slice none 0 0, .int .i64 0], .int .i64 1]) (by simp [results, Tryd.results34, go_sem, fr0, fr1, fr2]) rfl ?_
  exact zero_ye (fin3 L3.out Rr_3.out noint3 Gr).1

set_option maxHeartbeats 4000000 in
set_option maxRecDepth 100000 in
theorem r5div_ft (A B : Option Addr) (c d : Nat) (s r : Bool) (xs ys : List Nat) (x y P : Int) (up : Bool) (w : World) (h : Dg w A c xs) (h' : Dg w B d ys) (hl : xs.length ≤ 9223372036854775807) (hl' : ys.length ≤ 9223372036854775807) (hp : dyR s xs x = false) (hq : dyR r ys y = true):
    Calls Tryd.prog 34 #[.agg #[.bool s, .slice A xs.length c, .int .i64 x], .agg #[.bool r, .slice B ys.length d, .int .i64 y], .int .i64 P, .bool up] w fun e w' => Ye 0 0 1 w e w' := by
  have lx := Lib.hid hl
  have ly := Lib.hid hl'
  have HP := Lib.hid hp
  have HQ := Lib.hid hq
  have L0 := Lib.hid (((live_start w).add h).add h')
  clear h h' hl hl' hp hq
  go_enter Tryd.func34, Tryd.ntmps34
  go_wp2_with fail
  obtain ⟨v1, hW, hb, Rx_1, Ry_1, Rr_1⟩ := new3 w (.cells #[.bool s, .slice A xs.length c, .int .i64 x] 26) (.cells #[.bool r, .slice B ys.length d, .int .i64 y] 26) (.cells #[.bool false, .slice none 0 0, .int .i64 0] 26)
  rw [← hW]
  have L1 := ls L0 hb
  have Gx := gl0 L0.out
  have Gy := gl1 L0.out
  have Nxy : w.heap.size < w.heap.size + 1 := by omega
  have Gr := gl2 L0.out
  have Nxr : w.heap.size < w.heap.size + 1 + 1 := by omega
  have Nyr : w.heap.size + 1 < w.heap.size + 1 + 1 := by omega
  clear hW hb
  refine (r5right_any (L1.out.get (A := A) (c := c) (xs := xs) (by simp)) lx.out HP.out).mono ?_
  rintro e w2 ⟨rfl, hb⟩
  have L2 := ls L1 hb
  have Rx_2 := co Rx_1 hb
  have Ry_2 := co Ry_1 hb
  have Rr_2 := co Rr_1 hb
  clear hb 
  obtain ⟨fy0, zy0, fy1, zy1, fy2, zy2, xy⟩ := ly3 Ry_2.out
  go_wp2_with fail
  refine (r5right_any (L2.out.get (A := B) (c := d) (xs := ys) (by simp)) ly.out HQ.out).mono ?_
  rintro e w3 ⟨rfl, hb⟩
  have L3 := ls L2 hb
  clear fy0 zy0 fy1 zy1 fy2 zy2 xy
  have Rx_3 := co Rx_2 hb
  have Ry_3 := co Ry_2 hb
  have Rr_3 := co Rr_2 hb
  clear hb 
  obtain ⟨fr0, zr0, fr1, zr1, fr2, zr2, xr⟩ := ly3 Rr_3.out
  go_wp2
  refine bodyPost_ret (v := .tuple #[.agg #[.bool false, .slice none 0 0, .int .i64 0], .int .i64 1]) (by simp [results, Tryd.results34, go_sem, fr0, fr1, fr2]) rfl ?_
  exact zero_ye (fin3 L3.out Rr_3.out noint3 Gr).1

set_option maxHeartbeats 4000000 in
set_option maxRecDepth 100000 in
theorem r5div_tf (A B : Option Addr) (c d : Nat) (s r : Bool) (xs ys : List Nat) (x y P : Int) (up : Bool) (w : World) (h : Dg w A c xs) (h' : Dg w B d ys) (hl : xs.length ≤ 9223372036854775807) (hl' : ys.length ≤ 9223372036854775807) (hp : dyR s xs x = true) (hq : dyR r ys y = false):
    Calls Tryd.prog 34 #[.agg #[.bool s, .slice A xs.length c, .int .i64 x], .agg #[.bool r, .slice B ys.length d, .int .i64 y], .int .i64 P, .bool up] w fun e w' => Ye 0 0 1 w e w' := by
  have lx := Lib.hid hl
  have ly := Lib.hid hl'
  have HP := Lib.hid hp
  have HQ := Lib.hid hq
  have L0 := Lib.hid (((live_start w).add h).add h')
  clear h h' hl hl' hp hq
  go_enter Tryd.func34, Tryd.ntmps34
  go_wp2_with fail
  obtain ⟨v1, hW, hb, Rx_1, Ry_1, Rr_1⟩ := new3 w (.cells #[.bool s, .slice A xs.length c, .int .i64 x] 26) (.cells #[.bool r, .slice B ys.length d, .int .i64 y] 26) (.cells #[.bool false, .slice none 0 0, .int .i64 0] 26)
  rw [← hW]
  have L1 := ls L0 hb
  have Gx := gl0 L0.out
  have Gy := gl1 L0.out
  have Nxy : w.heap.size < w.heap.size + 1 := by omega
  have Gr := gl2 L0.out
  have Nxr : w.heap.size < w.heap.size + 1 + 1 := by omega
  have Nyr : w.heap.size + 1 < w.heap.size + 1 + 1 := by omega
  clear hW hb
  refine (r5right_any (L1.out.get (A := A) (c := c) (xs := xs) (by simp)) lx.out HP.out).mono ?_
  rintro e w2 ⟨rfl, hb⟩
  have L2 := ls L1 hb
  have Rx_2 := co Rx_1 hb
  have Ry_2 := co Ry_1 hb
  have Rr_2 := co Rr_1 hb
  clear hb 
  obtain ⟨fy0, zy0, fy1, zy1, fy2, zy2, xy⟩ := ly3 Ry_2.out
  go_wp2_with fail
  refine (r5right_any (L2.out.get (A := B) (c := d) (xs := ys) (by simp)) ly.out HQ.out).mono ?_
  rintro e w3 ⟨rfl, hb⟩
  have L3 := ls L2 hb
  clear fy0 zy0 fy1 zy1 fy2 zy2 xy
  have Rx_3 := co Rx_2 hb
  have Ry_3 := co Ry_2 hb
  have Rr_3 := co Rr_2 hb
  clear hb 
  obtain ⟨fr0, zr0, fr1, zr1, fr2, zr2, xr⟩ := ly3 Rr_3.out
  go_wp2
  refine bodyPost_ret (v := .tuple #[.agg #[.bool false, .slice none 0 0, .int .i64 0], .int .i64 1]) (by simp [results, Tryd.results34, go_sem, fr0, fr1, fr2]) rfl ?_
  exact zero_ye (fin3 L3.out Rr_3.out noint3 Gr).1
end Go.Proofs.YtaciohjobenipaaDoor
end

section
/-
  ref05: Sqrt.
-/
namespace Go.Proofs.YtaciohjobenipaaDoor
open Go.RowKit
set_option linter.unusedSimpArgs false
set_option linter.unusedVariables false
theorem tmod2U (v : Int) : (v.tmod 2 != 0) = decide (v % 2 = 1) := by
  by_cases h : v % 2 = 1
  · rw [decide_eq_true h]
    have e := Int.mul_tdiv_add_tmod v 2
    exact bne_iff_ne.2 (fun h0 => by rw [h0] at e; omega)
  · rw [decide_eq_false h, Int.tmod_eq_zero_of_dvd (Int.dvd_of_emod_eq_zero (by omega))]; rfl

set_option maxHeartbeats 4000000 in
set_option maxRecDepth 100000 in
theorem r5sqrt_n (A : Option Addr) (c : Nat) (m x P M E : Int) (up : Bool) (w : World) (h : Dg w A c (digs m.natAbs)) (hl : (digs m.natAbs).length ≤ 100) (r1 : Rt m x) {p : Nat} (hP : (p : Int) = P) (p2 : 2 ≤ p) (p4 : p ≤ 400) (m0 : m < 0):
    Calls Tryd.prog 36 #[.agg #[.bool (decide (m < 0)), .slice A (digs m.natAbs).length c, .int .i64 x], .int .i64 P, .bool up] w fun e w' => Ye 0 0 3 w e w' := by
  have HR1 := Lib.hid r1
  have lx := Lib.hid hl
  have HPR := Lib.hid (precB_in (P := P) (by omega) (by omega))
  have HNEG := Lib.hid (show decide (m < 0) = true by simp; omega)
  have L0 := Lib.hid ((live_start w).add h)
  clear h hl r1 hP p2 p4 m0
  go_enter Tryd.func36, Tryd.ntmps36
  go_wp2_with fail
  obtain ⟨v1, hW, hb, Rx_1, Rr_1⟩ := new2 w (.cells #[.bool (decide (m < 0)), .slice A (digs m.natAbs).length c, .int .i64 x] 26) (.cells #[.bool false, .slice none 0 0, .int .i64 0] 26)
  rw [← hW]
  have L1 := ls L0 hb
  have Gx := gl0 L0.out
  have Gr := gl1 L0.out
  have Nxr : w.heap.size < w.heap.size + 1 := by omega
  clear hW hb
  refine (r5right_t (L1.out.get (A := A) (c := c) (xs := digs m.natAbs) (by simp)) (Nat.le_trans lx.out (by omega)) HR1.out).mono ?_
  rintro e w2 ⟨rfl, hb⟩
  have L2 := ls L1 hb
  have Rx_2 := co Rx_1 hb
  have Rr_2 := co Rr_1 hb
  clear hb 
  go_wp2_with fail
  refine (r5prec P _ HPR.out).mono ?_
  rintro e w3 ⟨rfl, rfl⟩
  have dneg := HNEG.out
  obtain ⟨fx0, zx0, fx1, zx1, fx2, zx2, xx⟩ := ly3 Rx_2.out
  obtain ⟨fr0, zr0, fr1, zr1, fr2, zr2, xr⟩ := ly3 Rr_2.out
  go_wp2
  refine bodyPost_ret (v := .tuple #[.agg #[.bool false, .slice none 0 0, .int .i64 0], .int .i64 3]) (by simp [results, Tryd.results36, go_sem, fx0, fx1, fx2, fr0, fr1, fr2]) rfl ?_
  exact zero_ye (fin3 L2.out Rr_2.out noint3 Gr).1

set_option maxHeartbeats 4000000 in
set_option maxRecDepth 100000 in
theorem r5sqrt_z (A : Option Addr) (c : Nat) (m x P M E : Int) (up : Bool) (w : World) (h : Dg w A c (digs m.natAbs)) (hl : (digs m.natAbs).length ≤ 100) (r1 : Rt m x) {p : Nat} (hP : (p : Int) = P) (p2 : 2 ≤ p) (p4 : p ≤ 400) (m0 : m = 0):
    Calls Tryd.prog 36 #[.agg #[.bool (decide (m < 0)), .slice A (digs m.natAbs).length c, .int .i64 x], .int .i64 P, .bool up] w fun e w' => Ye 0 0 0 w e w' := by
  have HR1 := Lib.hid r1
  have lx := Lib.hid hl
  have HPR := Lib.hid (precB_in (P := P) (by omega) (by omega))
  have HNEG := Lib.hid (show decide (m < 0) = false by simp; omega)
  have t1 : ((((digs m.natAbs).length : Nat) : Int) == 0) = true := by rw [m0, show digs (0 : Int).natAbs = [] from digs_zero]; rfl
  have L0 := Lib.hid ((live_start w).add h)
  clear h hl r1 hP p2 p4 m0
  go_enter Tryd.func36, Tryd.ntmps36
  go_wp2_with fail
  obtain ⟨v1, hW, hb, Rx_1, Rr_1⟩ := new2 w (.cells #[.bool (decide (m < 0)), .slice A (digs m.natAbs).length c, .int .i64 x] 26) (.cells #[.bool false, .slice none 0 0, .int .i64 0] 26)
  rw [← hW]
  have L1 := ls L0 hb
  have Gx := gl0 L0.out
  have Gr := gl1 L0.out
  have Nxr : w.heap.size < w.heap.size + 1 := by omega
  clear hW hb
  refine (r5right_t (L1.out.get (A := A) (c := c) (xs := digs m.natAbs) (by simp)) (Nat.le_trans lx.out (by omega)) HR1.out).mono ?_
  rintro e w2 ⟨rfl, hb⟩
  have L2 := ls L1 hb
  have Rx_2 := co Rx_1 hb
  have Rr_2 := co Rr_1 hb
  clear hb 
  go_wp2_with fail
  refine (r5prec P _ HPR.out).mono ?_
  rintro e w3 ⟨rfl, rfl⟩
  have dneg := HNEG.out
  obtain ⟨fx0, zx0, fx1, zx1, fx2, zx2, xx⟩ := ly3 Rx_2.out
  obtain ⟨fr0, zr0, fr1, zr1, fr2, zr2, xr⟩ := ly3 Rr_2.out
  go_wp2
  refine bodyPost_ret (v := .tuple #[.agg #[.bool false, .slice none 0 0, .int .i64 0], .int .i64 0]) (by simp [results, Tryd.results36, go_sem, fx0, fx1, fx2, fr0, fr1, fr2]) rfl ?_
  exact zero_ye (fin3 L2.out Rr_2.out noint3 Gr).1

set_option maxHeartbeats 4000000 in
set_option maxRecDepth 100000 in
theorem r5sqrt_o (A : Option Addr) (c : Nat) (m x P M E : Int) (up : Bool) (w : World) (h : Dg w A c (digs m.natAbs)) (hl : (digs m.natAbs).length ≤ 100) (r1 : Rt m x) {p : Nat} (hP : (p : Int) = P) (p2 : 2 ≤ p) (p4 : p ≤ 400) (m0 : 0 < m) (hodd : (x - max 0 (2 * P + 4 - (blen m.natAbs : Int))) % 2 = 1) (hs : RsOf (dv m x) p up M E) {K F V : Int} (hq : tot M E = (K, F, V)):
    Calls Tryd.prog 36 #[.agg #[.bool (decide (m < 0)), .slice A (digs m.natAbs).length c, .int .i64 x], .int .i64 P, .bool up] w fun e w' => Ye K F V w e w' := by
  have HR1 := Lib.hid r1
  have lx := Lib.hid hl
  have HPR := Lib.hid (precB_in (P := P) (by omega) (by omega))
  have HNEG := Lib.hid (show decide (m < 0) = false by simp; omega)
  have t1 : ((((digs m.natAbs).length : Nat) : Int) == 0) = false := beq_eq_false_iff_ne.2 (fun e => by have := digs_nil.1 (show (digs m.natAbs).length = 0 by omega); omega)
  have x0 := r1.2.1
  have x1 := r1.2.2
  have HQ := Lib.hid hq
  have HP4 := Lib.hid p4
  have b1 : blen m.natAbs ≤ 3200 := bl_bd (k := 100) hl
  obtain ⟨z1, hz1⟩ : ∃ z : Int, (blen m.natAbs : Int) = z := ⟨_, rfl⟩
  rw [hz1] at hodd
  obtain ⟨k1, hk1⟩ : ∃ k : Int, max 0 (2 * P + 4 - z1) = k := ⟨_, rfl⟩
  rw [hk1] at hodd
  obtain ⟨k, hk⟩ : ∃ k : Int, (k1 + 1) = k := ⟨_, rfl⟩
  obtain ⟨kn, hkn⟩ : ∃ kn : Nat, kn = k.toNat := ⟨_, rfl⟩
  have hkk : k = (kn : Int) := by omega
  have hkb : kn ≤ 4000 := by omega
  have hkp : 2 * p ≤ blen m.natAbs + kn := by omega
  have hkp1 : 2 * (p + 1) ≤ blen m.natAbs + kn := by omega
  obtain ⟨hf, hhf⟩ : ∃ h : Int, x - k = 2 * h := ⟨(x - k) / 2, by omega⟩
  have hlN := len_pow (v := m.natAbs) (n := kn) (k := 100) hl
  obtain ⟨mo, hmo⟩ : ∃ t, decide (m.natAbs * 2 ^ kn - rt (m.natAbs * 2 ^ kn) * rt (m.natAbs * 2 ^ kn) ≠ 0) = t := ⟨_, rfl⟩
  have hkept := sqrt_kept (m := m) (x := x) (h := hf) (k := kn) (p := p) (up := up) (more := mo) m0 (by omega) hkp (by omega) hmo.symm
  have hu := RsOf.uniq (by omega) hkept.2 hs
  have hB := (sqrt_kept (m := m) (x := x) (h := hf) (k := kn) (p := p + 1) (up := up) (more := mo) m0 (by omega) hkp1 (by omega) hmo.symm).1
  obtain ⟨N, hN⟩ : ∃ N, m.natAbs * 2 ^ kn = N := ⟨_, rfl⟩
  rw [hN] at hlN hu hB hmo
  have hrl : rt N ≤ N := by
    have := (rt_spec N).1
    rcases Nat.eq_zero_or_pos (rt N) with h0 | h0
    · omega
    · exact Nat.le_trans (Nat.le_mul_of_pos_left _ h0) this
  have hlQ := digs_len_mono _ _ hrl
  have HMO := Lib.hid (show decide (0 < (digs (N - rt N * rt N)).length) = mo by rw [← hmo, decide_eq_decide]; have := @digs_nil (N - rt N * rt N); omega)
  obtain ⟨Q, hQ⟩ : ∃ Q, rt N = Q := ⟨_, rfl⟩
  rw [hQ] at hu hB hlQ HMO
  obtain ⟨R, hR⟩ : ∃ R, N - Q * Q = R := ⟨_, rfl⟩
  rw [hR] at HMO
  have DM := Lib.hid (fun (A : Option Addr) (c : Nat) W (h : Dg W A c (digs N)) => rsqrt_dU h (by omega))
  rw [hQ, hR] at DM
  have hu1 := hu.1
  have hu2 := hu.2
  have hM : nm (sg false (kept Q p mo up)) = M := by rw [← hu1]; rfl
  have hE : nx (sg false (kept Q p mo up)) (hf + (blen Q - p : Nat)) = E := by rw [← hu2]; rfl
  have kl := digs_len_mono _ _ (kept_le Q p mo up)
  have kl1 := digs_add_len Q 1
  have l1 : (digs 1).length = 1 := by rw [digs_one (by omega) (by omega)]; rfl
  have bQ : blen Q ≤ 32 * 227 := by have := bl_bd (m := (Q : Int)) (k := 227) (by rw [Int.natAbs_natCast]; omega); rwa [Int.natAbs_natCast] at this
  have BE := nx_bdU (z := sg false (kept Q p mo up)) (y := hf + (blen Q - p : Nat)) (by rw [sg_abs]; omega) (by omega) (by omega)
  rw [hE] at BE
  have BE := Lib.hid BE
  have LM := nm_len (sg false (kept Q p mo up))
  rw [hM, sg_abs] at LM
  have LM := Lib.hid (show (digs M.natAbs).length ≤ 100000 by omega)
  have HB := Lib.hid (show p < blen Q by omega)
  have HM := Lib.hid hM
  have HE := Lib.hid hE
  have HN := Lib.hid hN
  have HKK := Lib.hid (hk.trans hkk)
  have HKB := Lib.hid (show kn ≤ 300000 by omega)
  have HP2 := Lib.hid hP
  have HZ1 := Lib.hid hz1
  have LQ := Lib.hid (show (digs Q).length ≤ 3000 by omega)
  have LN := Lib.hid hlN
  have HMAX := Lib.hid hk1
  have HRM := Lib.hid (show ((x - k1).tmod 2 != 0) = true by rw [tmod2U]; exact decide_eq_true hodd)
  have HQ2 := Lib.hid (show Int.tdiv (x - (k1 + 1)) 2 = hf by rw [hk, hhf, Int.mul_comm]; exact Int.mul_tdiv_cancel _ (by omega))
  have p0 : 2 ≤ P := by omega
  have p9 : P ≤ 400 := by omega
  have zz0 : 0 ≤ z1 := by omega
  have zz1 : z1 ≤ 3200 := by omega
  have k10 : 0 ≤ k1 := by omega
  have k19 : k1 ≤ 900 := by omega
  have hf0 : -70000 ≤ hf := by omega
  have hf9 : hf ≤ 70000 := by omega
  have YB := Lib.hid (show -900000 ≤ hf ∧ hf ≤ 900000 by omega)
  have L0 := Lib.hid ((live_start w).add h)
  clear h hl r1 hP p2 p4 m0 hodd hs hq b1 hz1 hk1 hk hkn hkk hkb hkp hkp1 hhf hlN hmo hkept hu hB hN hrl hlQ hQ hR hu1 hu2 hM hE kl kl1 l1 bQ
  go_enter Tryd.func36, Tryd.ntmps36
  go_wp2_with fail
  obtain ⟨v1, hW, hb, Rx_1, Rr_1⟩ := new2 w (.cells #[.bool (decide (m < 0)), .slice A (digs m.natAbs).length c, .int .i64 x] 26) (.cells #[.bool false, .slice none 0 0, .int .i64 0] 26)
  rw [← hW]
  have L1 := ls L0 hb
  have Gx := gl0 L0.out
  have Gr := gl1 L0.out
  have Nxr : w.heap.size < w.heap.size + 1 := by omega
  clear hW hb
  refine (r5right_t (L1.out.get (A := A) (c := c) (xs := digs m.natAbs) (by simp)) (Nat.le_trans lx.out (by omega)) HR1.out).mono ?_
  rintro e w2 ⟨rfl, hb⟩
  have L2 := ls L1 hb
  have Rx_2 := co Rx_1 hb
  have Rr_2 := co Rr_1 hb
  clear hb 
  go_wp2_with fail
  refine (r5prec P _ HPR.out).mono ?_
  rintro e w3 ⟨rfl, rfl⟩
  have dneg := HNEG.out
  obtain ⟨fx0, zx0, fx1, zx1, fx2, zx2, xx⟩ := ly3 Rx_2.out
  go_wp2_with fail
  refine (rbits_z (L2.out.get (A := A) (c := c) (xs := digs m.natAbs) (by simp)) (Nat.le_trans lx.out (by omega)) HZ1.out).mono ?_
  rintro e w4 ⟨rfl, hb⟩
  have L4 := ls L2 hb
  clear fx0 zx0 fx1 zx1 fx2 zx2 xx
  have Rx_4 := co Rx_2 hb
  have Rr_4 := co Rr_2 hb
  clear hb 
  clear dneg
  have hmax := HMAX.out
  have hrm := HRM.out
  obtain ⟨fx0, zx0, fx1, zx1, fx2, zx2, xx⟩ := ly3 Rx_4.out
  go_wp2_with fail
  refine (r5upmag_ (N := N) (L4.out.get (A := A) (c := c) (xs := digs m.natAbs) (by simp)) (Nat.le_trans lx.out (by omega)) HKK.out HKB.out HN.out).mono ?_
  rintro e w5 ⟨A5, c5, rfl, hd, hb⟩
  have L5 := la L4 hb hd
  clear fx0 zx0 fx1 zx1 fx2 zx2 xx
  have Rx_5 := co Rx_4 hb
  have Rr_5 := co Rr_4 hb
  clear hb hd
  clear hmax hrm
  go_wp2_with fail
  refine (DM.out _ _ _ (L5.out.get (A := A5) (c := c5) (xs := digs N) (by simp))).mono ?_
  rintro e w6 ⟨A6, c6, B6, d6, rfl, hd, hd', hb⟩
  have L6 := Lib.hid (((L5.out.step hb).add hd).add hd')
  have Rx_6 := co Rx_5 hb
  have Rr_6 := co Rr_5 hb
  clear hb hd hd'
  have hq2 := HQ2.out
  have HMO2 := HMO.out
  obtain ⟨fx0, zx0, fx1, zx1, fx2, zx2, xx⟩ := ly3 Rx_6.out
  go_wp2_with fail
  refine (r5cut_any (q := Q) (L6.out.get (A := A6) (c := c6) (xs := digs Q) (by simp)) LQ.out HP2.out HP4.out (.inl HB.out) YB.out.1 YB.out.2 HM.out HE.out).mono ?_
  rintro e w7 ⟨A7, c7, rfl, hd, hb⟩
  have L7 := la L6 hb hd
  clear fx0 zx0 fx1 zx1 fx2 zx2 xx
  have Rx_7 := co Rx_6 hb
  have Rr_7 := co Rr_6 hb
  clear hb hd
  clear hq2 HMO2
  go_wp2_with fail
  refine (r5told (L7.out.get (A := A7) (c := c7) (xs := digs M.natAbs) (by simp)) LM.out BE.out.1 BE.out.2 HQ.out).mono ?_
  rintro e w8 ⟨A8, c8, rfl, hd, hb⟩
  have L8 := la L7 hb hd
  have Rx_8 := co Rx_7 hb
  have Rr_8 := co Rr_7 hb
  clear hb hd
  obtain ⟨fr0, zr0, fr1, zr1, fr2, zr2, xr⟩ := ly3 Rr_8.out
  go_wp2
  refine bodyPost_ret (v := .tuple #[.agg #[.bool (decide (K < 0)), .slice A8 (digs K.natAbs).length c8, .int .i64 F], .int .i64 V]) (by simp [results, Tryd.results36, go_sem, fr0, fr1, fr2]) rfl ?_
  
  refine ⟨A8, c8, rfl, ?_, ?_⟩
  · exact (fin3 L8.out Rr_8.out noint3 Gr).get (A := A8) (c := c8) (xs := digs K.natAbs) (by simp)
  · exact (fin3 L8.out Rr_8.out noint3 Gr).1

set_option maxHeartbeats 4000000 in
set_option maxRecDepth 100000 in
theorem r5sqrt_e (A : Option Addr) (c : Nat) (m x P M E : Int) (up : Bool) (w : World) (h : Dg w A c (digs m.natAbs)) (hl : (digs m.natAbs).length ≤ 100) (r1 : Rt m x) {p : Nat} (hP : (p : Int) = P) (p2 : 2 ≤ p) (p4 : p ≤ 400) (m0 : 0 < m) (hodd : (x - max 0 (2 * P + 4 - (blen m.natAbs : Int))) % 2 = 0) (hs : RsOf (dv m x) p up M E) {K F V : Int} (hq : tot M E = (K, F, V)):
    Calls Tryd.prog 36 #[.agg #[.bool (decide (m < 0)), .slice A (digs m.natAbs).length c, .int .i64 x], .int .i64 P, .bool up] w fun e w' => Ye K F V w e w' := by
  have HR1 := Lib.hid r1
  have lx := Lib.hid hl
  have HPR := Lib.hid (precB_in (P := P) (by omega) (by omega))
  have HNEG := Lib.hid (show decide (m < 0) = false by simp; omega)
  have t1 : ((((digs m.natAbs).length : Nat) : Int) == 0) = false := beq_eq_false_iff_ne.2 (fun e => by have := digs_nil.1 (show (digs m.natAbs).length = 0 by omega); omega)
  have x0 := r1.2.1
  have x1 := r1.2.2
  have HQ := Lib.hid hq
  have HP4 := Lib.hid p4
  have b1 : blen m.natAbs ≤ 3200 := bl_bd (k := 100) hl
  obtain ⟨z1, hz1⟩ : ∃ z : Int, (blen m.natAbs : Int) = z := ⟨_, rfl⟩
  rw [hz1] at hodd
  obtain ⟨k1, hk1⟩ : ∃ k : Int, max 0 (2 * P + 4 - z1) = k := ⟨_, rfl⟩
  rw [hk1] at hodd
  obtain ⟨k, hk⟩ : ∃ k : Int, k1 = k := ⟨_, rfl⟩
  obtain ⟨kn, hkn⟩ : ∃ kn : Nat, kn = k.toNat := ⟨_, rfl⟩
  have hkk : k = (kn : Int) := by omega
  have hkb : kn ≤ 4000 := by omega
  have hkp : 2 * p ≤ blen m.natAbs + kn := by omega
  have hkp1 : 2 * (p + 1) ≤ blen m.natAbs + kn := by omega
  obtain ⟨hf, hhf⟩ : ∃ h : Int, x - k = 2 * h := ⟨(x - k) / 2, by omega⟩
  have hlN := len_pow (v := m.natAbs) (n := kn) (k := 100) hl
  obtain ⟨mo, hmo⟩ : ∃ t, decide (m.natAbs * 2 ^ kn - rt (m.natAbs * 2 ^ kn) * rt (m.natAbs * 2 ^ kn) ≠ 0) = t := ⟨_, rfl⟩
  have hkept := sqrt_kept (m := m) (x := x) (h := hf) (k := kn) (p := p) (up := up) (more := mo) m0 (by omega) hkp (by omega) hmo.symm
  have hu := RsOf.uniq (by omega) hkept.2 hs
  have hB := (sqrt_kept (m := m) (x := x) (h := hf) (k := kn) (p := p + 1) (up := up) (more := mo) m0 (by omega) hkp1 (by omega) hmo.symm).1
  obtain ⟨N, hN⟩ : ∃ N, m.natAbs * 2 ^ kn = N := ⟨_, rfl⟩
  rw [hN] at hlN hu hB hmo
  have hrl : rt N ≤ N := by
    have := (rt_spec N).1
    rcases Nat.eq_zero_or_pos (rt N) with h0 | h0
    · omega
    · exact Nat.le_trans (Nat.le_mul_of_pos_left _ h0) this
  have hlQ := digs_len_mono _ _ hrl
  have HMO := Lib.hid (show decide (0 < (digs (N - rt N * rt N)).length) = mo by rw [← hmo, decide_eq_decide]; have := @digs_nil (N - rt N * rt N); omega)
  obtain ⟨Q, hQ⟩ : ∃ Q, rt N = Q := ⟨_, rfl⟩
  rw [hQ] at hu hB hlQ HMO
  obtain ⟨R, hR⟩ : ∃ R, N - Q * Q = R := ⟨_, rfl⟩
  rw [hR] at HMO
  have DM := Lib.hid (fun (A : Option Addr) (c : Nat) W (h : Dg W A c (digs N)) => rsqrt_dU h (by omega))
  rw [hQ, hR] at DM
  have hu1 := hu.1
  have hu2 := hu.2
  have hM : nm (sg false (kept Q p mo up)) = M := by rw [← hu1]; rfl
  have hE : nx (sg false (kept Q p mo up)) (hf + (blen Q - p : Nat)) = E := by rw [← hu2]; rfl
  have kl := digs_len_mono _ _ (kept_le Q p mo up)
  have kl1 := digs_add_len Q 1
  have l1 : (digs 1).length = 1 := by rw [digs_one (by omega) (by omega)]; rfl
  have bQ : blen Q ≤ 32 * 227 := by have := bl_bd (m := (Q : Int)) (k := 227) (by rw [Int.natAbs_natCast]; omega); rwa [Int.natAbs_natCast] at this
  have BE := nx_bdU (z := sg false (kept Q p mo up)) (y := hf + (blen Q - p : Nat)) (by rw [sg_abs]; omega) (by omega) (by omega)
  rw [hE] at BE
  have BE := Lib.hid BE
  have LM := nm_len (sg false (kept Q p mo up))
  rw [hM, sg_abs] at LM
  have LM := Lib.hid (show (digs M.natAbs).length ≤ 100000 by omega)
  have HB := Lib.hid (show p < blen Q by omega)
  have HM := Lib.hid hM
  have HE := Lib.hid hE
  have HN := Lib.hid hN
  have HKK := Lib.hid (hk.trans hkk)
  have HKB := Lib.hid (show kn ≤ 300000 by omega)
  have HP2 := Lib.hid hP
  have HZ1 := Lib.hid hz1
  have LQ := Lib.hid (show (digs Q).length ≤ 3000 by omega)
  have LN := Lib.hid hlN
  have HMAX := Lib.hid hk1
  have HRM := Lib.hid (show ((x - k1).tmod 2 != 0) = false by rw [tmod2U]; exact decide_eq_false (by omega))
  have HQ2 := Lib.hid (show Int.tdiv (x - k1) 2 = hf by rw [hk, hhf, Int.mul_comm]; exact Int.mul_tdiv_cancel _ (by omega))
  have p0 : 2 ≤ P := by omega
  have p9 : P ≤ 400 := by omega
  have zz0 : 0 ≤ z1 := by omega
  have zz1 : z1 ≤ 3200 := by omega
  have k10 : 0 ≤ k1 := by omega
  have k19 : k1 ≤ 900 := by omega
  have hf0 : -70000 ≤ hf := by omega
  have hf9 : hf ≤ 70000 := by omega
  have YB := Lib.hid (show -900000 ≤ hf ∧ hf ≤ 900000 by omega)
  have L0 := Lib.hid ((live_start w).add h)
  clear h hl r1 hP p2 p4 m0 hodd hs hq b1 hz1 hk1 hk hkn hkk hkb hkp hkp1 hhf hlN hmo hkept hu hB hN hrl hlQ hQ hR hu1 hu2 hM hE kl kl1 l1 bQ
  go_enter Tryd.func36, Tryd.ntmps36
  go_wp2_with fail
  obtain ⟨v1, hW, hb, Rx_1, Rr_1⟩ := new2 w (.cells #[.bool (decide (m < 0)), .slice A (digs m.natAbs).length c, .int .i64 x] 26) (.cells #[.bool false, .slice none 0 0, .int .i64 0] 26)
  rw [← hW]
  have L1 := ls L0 hb
  have Gx := gl0 L0.out
  have Gr := gl1 L0.out
  have Nxr : w.heap.size < w.heap.size + 1 := by omega
  clear hW hb
  refine (r5right_t (L1.out.get (A := A) (c := c) (xs := digs m.natAbs) (by simp)) (Nat.le_trans lx.out (by omega)) HR1.out).mono ?_
  rintro e w2 ⟨rfl, hb⟩
  have L2 := ls L1 hb
  have Rx_2 := co Rx_1 hb
  have Rr_2 := co Rr_1 hb
  clear hb 
  go_wp2_with fail
  refine (r5prec P _ HPR.out).mono ?_
  rintro e w3 ⟨rfl, rfl⟩
  have dneg := HNEG.out
  obtain ⟨fx0, zx0, fx1, zx1, fx2, zx2, xx⟩ := ly3 Rx_2.out
  go_wp2_with fail
  refine (rbits_z (L2.out.get (A := A) (c := c) (xs := digs m.natAbs) (by simp)) (Nat.le_trans lx.out (by omega)) HZ1.out).mono ?_
  rintro e w4 ⟨rfl, hb⟩
  have L4 := ls L2 hb
  clear fx0 zx0 fx1 zx1 fx2 zx2 xx
  have Rx_4 := co Rx_2 hb
  have Rr_4 := co Rr_2 hb
  clear hb 
  clear dneg
  have hmax := HMAX.out
  have hrm := HRM.out
  obtain ⟨fx0, zx0, fx1, zx1, fx2, zx2, xx⟩ := ly3 Rx_4.out
  go_wp2_with fail
  refine (r5upmag_ (N := N) (L4.out.get (A := A) (c := c) (xs := digs m.natAbs) (by simp)) (Nat.le_trans lx.out (by omega)) HKK.out HKB.out HN.out).mono ?_
  rintro e w5 ⟨A5, c5, rfl, hd, hb⟩
  have L5 := la L4 hb hd
  clear fx0 zx0 fx1 zx1 fx2 zx2 xx
  have Rx_5 := co Rx_4 hb
  have Rr_5 := co Rr_4 hb
  clear hb hd
  clear hmax hrm
  go_wp2_with fail
  refine (DM.out _ _ _ (L5.out.get (A := A5) (c := c5) (xs := digs N) (by simp))).mono ?_
  rintro e w6 ⟨A6, c6, B6, d6, rfl, hd, hd', hb⟩
  have L6 := Lib.hid (((L5.out.step hb).add hd).add hd')
  have Rx_6 := co Rx_5 hb
  have Rr_6 := co Rr_5 hb
  clear hb hd hd'
  have hq2 := HQ2.out
  have HMO2 := HMO.out
  obtain ⟨fx0, zx0, fx1, zx1, fx2, zx2, xx⟩ := ly3 Rx_6.out
  go_wp2_with fail
  refine (r5cut_any (q := Q) (L6.out.get (A := A6) (c := c6) (xs := digs Q) (by simp)) LQ.out HP2.out HP4.out (.inl HB.out) YB.out.1 YB.out.2 HM.out HE.out).mono ?_
  rintro e w7 ⟨A7, c7, rfl, hd, hb⟩
  have L7 := la L6 hb hd
  clear fx0 zx0 fx1 zx1 fx2 zx2 xx
  have Rx_7 := co Rx_6 hb
  have Rr_7 := co Rr_6 hb
  clear hb hd
  clear hq2 HMO2
  go_wp2_with fail
  refine (r5told (L7.out.get (A := A7) (c := c7) (xs := digs M.natAbs) (by simp)) LM.out BE.out.1 BE.out.2 HQ.out).mono ?_
  rintro e w8 ⟨A8, c8, rfl, hd, hb⟩
  have L8 := la L7 hb hd
  have Rx_8 := co Rx_7 hb
  have Rr_8 := co Rr_7 hb
  clear hb hd
  obtain ⟨fr0, zr0, fr1, zr1, fr2, zr2, xr⟩ := ly3 Rr_8.out
  go_wp2
  refine bodyPost_ret (v := .tuple #[.agg #[.bool (decide (K < 0)), .slice A8 (digs K.natAbs).length c8, .int .i64 F], .int .i64 V]) (by simp [results, Tryd.results36, go_sem, fr0, fr1, fr2]) rfl ?_
  
  refine ⟨A8, c8, rfl, ?_, ?_⟩
  · exact (fin3 L8.out Rr_8.out noint3 Gr).get (A := A8) (c := c8) (xs := digs K.natAbs) (by simp)
  · exact (fin3 L8.out Rr_8.out noint3 Gr).1
end Go.Proofs.YtaciohjobenipaaDoor
end

section
/-
  dyad, in range or not: Div, Sqrt.
-/
namespace Go.Proofs.YtaciohjobenipaaDoor
open Go.RowKit
set_option linter.unusedSimpArgs false
set_option linter.unusedVariables false
set_option maxHeartbeats 4000000 in
set_option maxRecDepth 100000 in
theorem tdiv_z_ (A B : Option Addr) (c d : Nat) (m n x y : Int) (P M E : Int) (up : Bool) (w : World) (h : Dg w A c (digs m.natAbs)) (h' : Dg w B d (digs n.natAbs)) (hl : (digs m.natAbs).length ≤ 10000) (hl' : (digs n.natAbs).length ≤ 10000) (r1 : Rt m x) (r2 : Rt n y) (hT : T32 w) {p : Nat} (hP : (p : Int) = P) (p2 : 2 ≤ p) (p4 : p ≤ 400) (n0 : n ≠ 0) (hs : RdOf (dv m x / dv n y) p up M E) (hlm : (digs M.natAbs).length ≤ 900000) {K F V : Int} (hq : tot M E = (K, F, V)) (m0 : m = 0):
    Calls Tryd.prog 33 #[.agg #[.bool (decide (m < 0)), .slice A (digs m.natAbs).length c, .int .i64 x], .agg #[.bool (decide (n < 0)), .slice B (digs n.natAbs).length d, .int .i64 y], .int .i64 P, .bool up] w fun e w' => Ye K F V w e w' := by
  have HR1 := Lib.hid r1
  have HR2 := Lib.hid r2
  have lx := Lib.hid hl
  have ly := Lib.hid hl'
  have HQ := Lib.hid hq
  have x0 := r1.2.1
  have x1 := r1.2.2
  have y0 := r2.2.1
  have y1 := r2.2.2
  have LM := Lib.hid hlm
  have HPR := Lib.hid (precB_in (P := P) (by omega) (by omega))
  have D2 := Lib.hid (show decide (n = 0) = false by simp [n0])
  have D1 := Lib.hid (show decide (m = 0) = true by simp [m0])
  obtain ⟨rfl, rfl⟩ := RdOf.uniq (M := m) (E := x) ⟨r1.1, .inl ⟨by rw [m0, dv_zero, Rat.div_def, Rat.zero_mul], m0⟩⟩ hs
  have HT := Lib.hid hT
  clear hT
  have L0 := Lib.hid (((live_start w).add h).add h')
  clear h h' hl hl' r1 r2 hs hq hP n0 m0
  go_enter Tryd.func33, Tryd.ntmps33
  go_wp2_with fail
  obtain ⟨v1, hW, hb, Rx_1, Ry_1, Rr_1, Rsl_1⟩ := new4 w (.cells #[.bool (decide (m < 0)), .slice A (digs m.natAbs).length c, .int .i64 x] 26) (.cells #[.bool (decide (n < 0)), .slice B (digs n.natAbs).length d, .int .i64 y] 26) (.cells #[.bool false, .slice none 0 0, .int .i64 0] 26) (.cells #[.bool (decide (m < 0)), .slice A (digs m.natAbs).length c, .int .i64 x, .bool (decide (n < 0)), .slice B (digs n.natAbs).length d, .int .i64 y] 26)
  rw [← hW]
  have L1 := ls L0 hb
  have Gx := gl0 L0.out
  have Gy := gl1 L0.out
  have Nxy : w.heap.size < w.heap.size + 1 := by omega
  have Gr := gl2 L0.out
  have Nxr : w.heap.size < w.heap.size + 1 + 1 := by omega
  have Nyr : w.heap.size + 1 < w.heap.size + 1 + 1 := by omega
  have Gsl := gl3 L0.out
  have Nxsl : w.heap.size < w.heap.size + 1 + 1 + 1 := by omega
  have Nysl : w.heap.size + 1 < w.heap.size + 1 + 1 + 1 := by omega
  have Nrsl : w.heap.size + 1 + 1 < w.heap.size + 1 + 1 + 1 := by omega
  clear hW hb
  refine (begin_2 Rsl_1.out (L1.out.get (A := A) (c := c) (xs := digs m.natAbs) (by simp)) (L1.out.get (A := B) (c := d) (xs := digs n.natAbs) (by simp)) (dyR_num HR1.out) (dyR_num HR2.out) (Nat.le_trans lx.out (by omega)) (Nat.le_trans ly.out (by omega)) (k := 0) rfl).mono ?_
  rintro e w2 ⟨rfl, hb⟩
  have L2 := ls L1 hb
  have Rx_2 := co Rx_1 hb
  have Ry_2 := co Ry_1 hb
  have Rr_2 := co Rr_1 hb
  have Rsl_2 := co Rsl_1 hb
  clear hb 
  go_wp2_with fail
  obtain ⟨w3, hW, hb, Rk_3⟩ := new1 w2 (.cells #[.int .i64 0] 66)
  rw [← hW]
  have L3 := ls L2 hb
  have Rx_3 := co Rx_2 hb
  have Ry_3 := co Ry_2 hb
  have Rr_3 := co Rr_2 hb
  have Rsl_3 := co Rsl_2 hb
  have Gk := gl0 L2.out
  have Nxk := nl0 Rx_2.out
  have Nyk := nl0 Ry_2.out
  have Nrk := nl0 Rr_2.out
  have Nslk := nl0 Rsl_2.out
  clear hW hb
  refine (precision_no _ 0 P _ (row_c Rk_3.out (i := 0) rfl) (.inl HPR.out)).mono ?_
  rintro e w4 ⟨rfl, rfl⟩
  obtain ⟨fy0, zy0, fy1, zy1, fy2, zy2, xy⟩ := ly3 Ry_3.out
  go_wp2_with fail
  refine (isz_d (x := y) D2.out).mono ?_
  rintro e w5 ⟨rfl, hb⟩
  have L5 := ls L3 hb
  clear fy0 zy0 fy1 zy1 fy2 zy2 xy
  have Rx_5 := co Rx_3 hb
  have Ry_5 := co Ry_3 hb
  have Rr_5 := co Rr_3 hb
  have Rsl_5 := co Rsl_3 hb
  have Rk_5 := co Rk_3 hb
  clear hb 
  go_wp2_with fail
  refine (tell_no _ 0 3 false _ (row_c Rk_5.out (i := 0) rfl) (.inl rfl)).mono ?_
  rintro e w6 ⟨rfl, rfl⟩
  go_wp2_with fail
  refine (fails_any _ 0 false _ (row_c Rk_5.out (i := 0) rfl) rfl).mono ?_
  rintro e w7 ⟨rfl, rfl⟩
  obtain ⟨fx0, zx0, fx1, zx1, fx2, zx2, xx⟩ := ly3 Rx_5.out
  go_wp2_with fail
  refine (isz_d (x := x) D1.out).mono ?_
  rintro e w8 ⟨rfl, hb⟩
  have L8 := ls L5 hb
  clear fx0 zx0 fx1 zx1 fx2 zx2 xx
  have Rx_8 := co Rx_5 hb
  have Ry_8 := co Ry_5 hb
  have Rr_8 := co Rr_5 hb
  have Rsl_8 := co Rsl_5 hb
  have Rk_8 := co Rk_5 hb
  clear hb 
  obtain ⟨fx0, zx0, fx1, zx1, fx2, zx2, xx⟩ := ly3 Rx_8.out
  go_wp2_with fail
  refine (answer_t Rk_8.out (L8.out.get (A := A) (c := c) (xs := digs m.natAbs) (by simp)) (Nat.le_trans LM.out (by omega)) HQ.out).mono ?_
  rintro e wz ⟨Az, cz, rfl, hd, hb⟩
  clear fx0 zx0 fx1 zx1 fx2 zx2 xx
  have Rr_z := Lib.hid ((hb.block (w.heap.size + 1 + 1) (by omega)).trans Rr_8.out)
  have Lz := Lib.hid (live_upto L8.out.1 hb Gk hd)
  clear hd hb
  obtain ⟨fr0, zr0, fr1, zr1, fr2, zr2, xr⟩ := ly3 Rr_z.out
  go_wp2
  refine bodyPost_ret (v := .tuple #[.agg #[.bool (decide (K < 0)), .slice Az (digs K.natAbs).length cz, .int .i64 F], .int .i64 V]) (by simp [results, Tryd.results33, go_sem, fr0, fr1, fr2]) rfl ?_
  
  refine ⟨Az, cz, rfl, ?_, ?_⟩
  · exact (fin3 Lz.out Rr_z.out noint3 Gr).get (A := Az) (c := cz) (xs := digs K.natAbs) (by simp)
  · exact (fin3 Lz.out Rr_z.out noint3 Gr).1

set_option maxHeartbeats 4000000 in
set_option maxRecDepth 100000 in
theorem tdiv_b_ (A B : Option Addr) (c d : Nat) (m n x y : Int) (P M E : Int) (up : Bool) (w : World) (h : Dg w A c (digs m.natAbs)) (h' : Dg w B d (digs n.natAbs)) (hl : (digs m.natAbs).length ≤ 10000) (hl' : (digs n.natAbs).length ≤ 10000) (r1 : Rt m x) (r2 : Rt n y) (hT : T32 w) {p : Nat} (hP : (p : Int) = P) (p2 : 2 ≤ p) (p4 : p ≤ 400) (n0 : n ≠ 0) (hs : RdOf (dv m x / dv n y) p up M E) (hlm : (digs M.natAbs).length ≤ 900000) {K F V : Int} (hq : tot M E = (K, F, V)) (m0 : m ≠ 0):
    Calls Tryd.prog 33 #[.agg #[.bool (decide (m < 0)), .slice A (digs m.natAbs).length c, .int .i64 x], .agg #[.bool (decide (n < 0)), .slice B (digs n.natAbs).length d, .int .i64 y], .int .i64 P, .bool up] w fun e w' => Ye K F V w e w' := by
  have HR1 := Lib.hid r1
  have HR2 := Lib.hid r2
  have lx := Lib.hid hl
  have ly := Lib.hid hl'
  have HQ := Lib.hid hq
  have x0 := r1.2.1
  have x1 := r1.2.2
  have y0 := r2.2.1
  have y1 := r2.2.2
  have LM := Lib.hid hlm
  have HPR := Lib.hid (precB_in (P := P) (by omega) (by omega))
  have D2 := Lib.hid (show decide (n = 0) = false by simp [n0])
  have D1 := Lib.hid (show decide (m = 0) = false by simp [m0])
  have b1 := bl_bd hl
  have b2 := bl_bd hl'
  obtain ⟨z1, hz1⟩ : ∃ z : Int, (blen m.natAbs : Int) = z := ⟨_, rfl⟩
  obtain ⟨z2, hz2⟩ : ∃ z : Int, (blen n.natAbs : Int) = z := ⟨_, rfl⟩
  obtain ⟨kn, hkn⟩ : ∃ k : Nat, k = (max 0 (P + z2 - z1)).toNat := ⟨_, rfl⟩
  obtain ⟨k, hk⟩ : ∃ k : Int, max 0 (P + z2 - z1) = k := ⟨_, rfl⟩
  have hkk : k = (kn : Int) := by omega
  have hkb : kn ≤ 330000 := by omega
  have hkp : p + blen n.natAbs ≤ blen m.natAbs + kn := by omega
  have hlN := up_len (q := m.natAbs) hl hkb
  obtain ⟨t, ht⟩ : ∃ t, (decide (m < 0) != decide (n < 0)) = t := ⟨_, rfl⟩
  obtain ⟨mo, hmo⟩ : ∃ t, decide (m.natAbs * 2 ^ kn % n.natAbs ≠ 0) = t := ⟨_, rfl⟩
  have hkept := div_kept (m := m) (n := n) (x := x) (y := y) (k := kn) (p := p) (up := up) (more := mo) m0 n0 (by omega) hkp hmo.symm
  rw [ht] at hkept
  have hu := RdOf.uniq hkept.2 hs
  have HB := Lib.hid hkept.1
  obtain ⟨N, hN⟩ : ∃ N, m.natAbs * 2 ^ kn = N := ⟨_, rfl⟩
  rw [hN] at hlN hu HB hmo
  have hlQ := digs_len_mono _ _ (Nat.div_le_self N n.natAbs)
  have HMO := Lib.hid (show decide (0 < (digs (N % n.natAbs)).length) = mo by rw [← hmo, decide_eq_decide]; have := @digs_nil (N % n.natAbs); omega)
  obtain ⟨Q, hQ⟩ : ∃ Q, N / n.natAbs = Q := ⟨_, rfl⟩
  obtain ⟨R, hR⟩ : ∃ R, N % n.natAbs = R := ⟨_, rfl⟩
  rw [hQ] at hu HB hlQ
  rw [hR] at HMO
  have DM := Lib.hid (fun (A B : Option Addr) (c d : Nat) W (h : Dg W A c (digs N)) (h' : Dg W B d (digs n.natAbs)) => divmod_d h h' (by omega) (by omega) (by omega))
  rw [hQ, hR] at DM
  have HM := Lib.hid hu.1
  have HE := Lib.hid (show nx (sg t (kept Q p mo (up != t))) (x - y - k + (blen Q - p : Nat)) = E by rw [hkk]; exact hu.2)
  have HN := Lib.hid hN
  have HKK := Lib.hid hkk
  have HKB := Lib.hid (show kn ≤ 1000000 by omega)
  have HP2 := Lib.hid hP
  have HZ1 := Lib.hid hz1
  have HZ2 := Lib.hid hz2
  have LQ := Lib.hid (show (digs Q).length ≤ 30000 by omega)
  have LN := Lib.hid hlN
  obtain ⟨s1, hs1⟩ : ∃ s, P + z2 = s := ⟨_, rfl⟩
  obtain ⟨s2, hs2⟩ : ∃ s, s1 - z1 = s := ⟨_, rfl⟩
  have ws1 : IntKind.i64.wrap (P + z2) = s1 := by rw [IntWalk.i64_in _ (by omega)]; exact hs1
  have ws2 : IntKind.i64.wrap (s1 - z1) = s2 := by rw [IntWalk.i64_in _ (by omega)]; exact hs2
  have hmax : max 0 s2 = k := by rw [← hk, ← hs2, ← hs1]
  have k0 : 0 ≤ k := by omega
  have k9 : k ≤ 330000 := by omega
  have HT2 := Lib.hid ht
  have HT := Lib.hid hT
  clear hT
  have L0 := Lib.hid (((live_start w).add h).add h')
  clear h h' hl hl' r1 r2 hs hq hP n0 m0 hz1 hz2 hkn hk hkk hkb hkp hlN ht hmo hkept hu hN hlQ hQ hR hs1 hs2 b1 b2
  go_enter Tryd.func33, Tryd.ntmps33
  go_wp2_with fail
  obtain ⟨v1, hW, hb, Rx_1, Ry_1, Rr_1, Rsl_1⟩ := new4 w (.cells #[.bool (decide (m < 0)), .slice A (digs m.natAbs).length c, .int .i64 x] 26) (.cells #[.bool (decide (n < 0)), .slice B (digs n.natAbs).length d, .int .i64 y] 26) (.cells #[.bool false, .slice none 0 0, .int .i64 0] 26) (.cells #[.bool (decide (m < 0)), .slice A (digs m.natAbs).length c, .int .i64 x, .bool (decide (n < 0)), .slice B (digs n.natAbs).length d, .int .i64 y] 26)
  rw [← hW]
  have L1 := ls L0 hb
  have Gx := gl0 L0.out
  have Gy := gl1 L0.out
  have Nxy : w.heap.size < w.heap.size + 1 := by omega
  have Gr := gl2 L0.out
  have Nxr : w.heap.size < w.heap.size + 1 + 1 := by omega
  have Nyr : w.heap.size + 1 < w.heap.size + 1 + 1 := by omega
  have Gsl := gl3 L0.out
  have Nxsl : w.heap.size < w.heap.size + 1 + 1 + 1 := by omega
  have Nysl : w.heap.size + 1 < w.heap.size + 1 + 1 + 1 := by omega
  have Nrsl : w.heap.size + 1 + 1 < w.heap.size + 1 + 1 + 1 := by omega
  clear hW hb
  refine (begin_2 Rsl_1.out (L1.out.get (A := A) (c := c) (xs := digs m.natAbs) (by simp)) (L1.out.get (A := B) (c := d) (xs := digs n.natAbs) (by simp)) (dyR_num HR1.out) (dyR_num HR2.out) (Nat.le_trans lx.out (by omega)) (Nat.le_trans ly.out (by omega)) (k := 0) rfl).mono ?_
  rintro e w2 ⟨rfl, hb⟩
  have L2 := ls L1 hb
  have Rx_2 := co Rx_1 hb
  have Ry_2 := co Ry_1 hb
  have Rr_2 := co Rr_1 hb
  have Rsl_2 := co Rsl_1 hb
  clear hb 
  go_wp2_with fail
  obtain ⟨w3, hW, hb, Rk_3⟩ := new1 w2 (.cells #[.int .i64 0] 66)
  rw [← hW]
  have L3 := ls L2 hb
  have Rx_3 := co Rx_2 hb
  have Ry_3 := co Ry_2 hb
  have Rr_3 := co Rr_2 hb
  have Rsl_3 := co Rsl_2 hb
  have Gk := gl0 L2.out
  have Nxk := nl0 Rx_2.out
  have Nyk := nl0 Ry_2.out
  have Nrk := nl0 Rr_2.out
  have Nslk := nl0 Rsl_2.out
  clear hW hb
  refine (precision_no _ 0 P _ (row_c Rk_3.out (i := 0) rfl) (.inl HPR.out)).mono ?_
  rintro e w4 ⟨rfl, rfl⟩
  obtain ⟨fy0, zy0, fy1, zy1, fy2, zy2, xy⟩ := ly3 Ry_3.out
  go_wp2_with fail
  refine (isz_d (x := y) D2.out).mono ?_
  rintro e w5 ⟨rfl, hb⟩
  have L5 := ls L3 hb
  clear fy0 zy0 fy1 zy1 fy2 zy2 xy
  have Rx_5 := co Rx_3 hb
  have Ry_5 := co Ry_3 hb
  have Rr_5 := co Rr_3 hb
  have Rsl_5 := co Rsl_3 hb
  have Rk_5 := co Rk_3 hb
  clear hb 
  go_wp2_with fail
  refine (tell_no _ 0 3 false _ (row_c Rk_5.out (i := 0) rfl) (.inl rfl)).mono ?_
  rintro e w6 ⟨rfl, rfl⟩
  go_wp2_with fail
  refine (fails_any _ 0 false _ (row_c Rk_5.out (i := 0) rfl) rfl).mono ?_
  rintro e w7 ⟨rfl, rfl⟩
  obtain ⟨fx0, zx0, fx1, zx1, fx2, zx2, xx⟩ := ly3 Rx_5.out
  go_wp2_with fail
  refine (isz_d (x := x) D1.out).mono ?_
  rintro e w8 ⟨rfl, hb⟩
  have L8 := ls L5 hb
  clear fx0 zx0 fx1 zx1 fx2 zx2 xx
  have Rx_8 := co Rx_5 hb
  have Ry_8 := co Ry_5 hb
  have Rr_8 := co Rr_5 hb
  have Rsl_8 := co Rsl_5 hb
  have Rk_8 := co Rk_5 hb
  clear hb 
  obtain ⟨fx0, zx0, fx1, zx1, fx2, zx2, xx⟩ := ly3 Rx_8.out
  obtain ⟨fy0, zy0, fy1, zy1, fy2, zy2, xy⟩ := ly3 Ry_8.out
  go_wp2_with fail
  clear fx0 zx0 fx1 zx1 fx2 zx2 xx fy0 zy0 fy1 zy1 fy2 zy2 xy
  obtain ⟨fx0, zx0, fx1, zx1, fx2, zx2, xx⟩ := ly3 Rx_8.out
  obtain ⟨fy0, zy0, fy1, zy1, fy2, zy2, xy⟩ := ly3 Ry_8.out
  have KD := Lib.hid (bd0 w8)
  have LD := ls L8 KD.out
  go_region_held3 (fun w' => ∀ b o, b < w8.heap.size → w'.cell? ⟨b, o, none⟩ = w8.cell? ⟨b, o, none⟩)
    (first | with_reducible exact (bcell KD.out).1)
    (first
      | (go_at_call_of 48 B; (with_reducible refine (bits_b (LD.out.get (A := B) (c := d) (xs := digs n.natAbs) (by simp)) (Nat.le_trans ly.out (by omega)) HZ2.out).mono ?_); rintro e w10 ⟨rfl, rfl⟩)
      | (go_at_call_of 48 A; (with_reducible refine (bits_b (LD.out.get (A := A) (c := c) (xs := digs m.natAbs) (by simp)) (Nat.le_trans lx.out (by omega)) HZ1.out).mono ?_); rintro e w11 ⟨rfl, rfl⟩))
  rename_i hHeld
  clear hHeld
  clear fx0 zx0 fx1 zx1 fx2 zx2 xx fy0 zy0 fy1 zy1 fy2 zy2 xy
  clear KD LD
  obtain ⟨w12, hW⟩ : ∃ W : World, W = w8.drew := ⟨_, rfl⟩
  rw [← hW]
  have hb : Below w8.heap.size w8 w12 := by rw [hW]; exact bd0 _
  have L12 := ls L8 hb
  have Rx_12 := co Rx_8 hb
  have Ry_12 := co Ry_8 hb
  have Rr_12 := co Rr_8 hb
  have Rsl_12 := co Rsl_8 hb
  have Rk_12 := co Rk_8 hb
  clear hW hb
  clear ws1 ws2 hmax
  obtain ⟨fx0, zx0, fx1, zx1, fx2, zx2, xx⟩ := ly3 Rx_12.out
  obtain ⟨fy0, zy0, fy1, zy1, fy2, zy2, xy⟩ := ly3 Ry_12.out
  go_wp2_with fail
  clear fx0 zx0 fx1 zx1 fx2 zx2 xx fy0 zy0 fy1 zy1 fy2 zy2 xy
  obtain ⟨fx0, zx0, fx1, zx1, fx2, zx2, xx⟩ := ly3 Rx_12.out
  obtain ⟨fy0, zy0, fy1, zy1, fy2, zy2, xy⟩ := ly3 Ry_12.out
  have KD := Lib.hid (bd0 w12)
  have LD := ls L12 KD.out
  go_region_held3 (fun w' => ∀ b o, b < w12.heap.size → w'.cell? ⟨b, o, none⟩ = w12.cell? ⟨b, o, none⟩)
    (first | with_reducible exact (bcell KD.out).1 | with_reducible exact (bcell K14.out).1 | with_reducible exact (bcell K15.out).1)
    (first
      | (go_at_call 72; (with_reducible refine (lift_n (N := N) (LD.out.get (A := A) (c := c) (xs := digs m.natAbs) (by simp)) (Nat.le_trans lx.out (by omega)) HKK.out HKB.out HN.out).mono ?_); rintro e w14 ⟨A14, c14, rfl, hd, hb⟩; (have K14 := bt KD hb); (have L14 := la LD hb hd); clear hb hd)
      | (go_at_call 71; (with_reducible refine (DM.out _ _ _ _ _ (L14.out.get (A := A14) (c := c14) (xs := digs N) (by simp)) (L14.out.get (A := B) (c := d) (xs := digs n.natAbs) (by simp))).mono ?_); rintro e w15 ⟨A15, c15, B15, d15, rfl, hd, hd', hb⟩; (have K15 := bt K14 hb); (have L15 := Lib.hid (((L14.out.step hb).add hd).add hd')); clear hb hd hd'))
  rename_i hHeld
  clear hHeld
  clear fx0 zx0 fx1 zx1 fx2 zx2 xx fy0 zy0 fy1 zy1 fy2 zy2 xy
  have Rx_15 := co Rx_12 K15.out
  have Ry_15 := co Ry_12 K15.out
  have Rr_15 := co Rr_12 K15.out
  have Rsl_15 := co Rsl_12 K15.out
  have Rk_15 := co Rk_12 K15.out
  clear KD LD
  have HT3 : (!(decide (m < 0) == decide (n < 0))) = t := HT2.out
  have HMO2 := HMO.out
  obtain ⟨fx0, zx0, fx1, zx1, fx2, zx2, xx⟩ := ly3 Rx_15.out
  obtain ⟨fy0, zy0, fy1, zy1, fy2, zy2, xy⟩ := ly3 Ry_15.out
  go_wp2_with fail
  obtain ⟨w16, hW, hb, Rq_16⟩ := new1 w15 (.cells #[.bool t, .slice A15 (digs Q).length c15, .int .i64 (x - y - k)] 26)
  rw [← hW]
  have L16 := ls L15 hb
  have Rx_16 := co Rx_15 hb
  have Ry_16 := co Ry_15 hb
  have Rr_16 := co Rr_15 hb
  have Rsl_16 := co Rsl_15 hb
  have Rk_16 := co Rk_15 hb
  have Gq := gl0 L15.out
  have Nxq := nl0 Rx_15.out
  have Nyq := nl0 Ry_15.out
  have Nrq := nl0 Rr_15.out
  have Nslq := nl0 Rsl_15.out
  have Nkq := nl0 Rk_15.out
  clear hW hb
  clear fx0 zx0 fx1 zx1 fx2 zx2 xx fy0 zy0 fy1 zy1 fy2 zy2 xy
  refine (cut_any A15 c15 t up mo Q (x - y - k) P p M E _ (L16.out.get (A := A15) (c := c15) (xs := digs Q) (by simp)) LQ.out (t32_live HT.out L16.out) HP2.out p2 p4 HB.out (by omega) (by omega) HM.out HE.out).mono ?_
  rintro e w17 ⟨A17, c17, rfl, hd, hb⟩
  have L17 := la L16 hb hd
  have Rx_17 := co Rx_16 hb
  have Ry_17 := co Ry_16 hb
  have Rr_17 := co Rr_16 hb
  have Rsl_17 := co Rsl_16 hb
  have Rk_17 := co Rk_16 hb
  have Rq_17 := co Rq_16 hb
  clear hb hd
  clear HT3 HMO2
  go_wp2_with fail
  refine (answer_t Rk_17.out (L17.out.get (A := A17) (c := c17) (xs := digs M.natAbs) (by simp)) (Nat.le_trans LM.out (by omega)) HQ.out).mono ?_
  rintro e wz ⟨Az, cz, rfl, hd, hb⟩
  have Rr_z := Lib.hid ((hb.block (w.heap.size + 1 + 1) (by omega)).trans Rr_17.out)
  have Lz := Lib.hid (live_upto L17.out.1 hb Gk hd)
  clear hd hb
  obtain ⟨fr0, zr0, fr1, zr1, fr2, zr2, xr⟩ := ly3 Rr_z.out
  go_wp2
  refine bodyPost_ret (v := .tuple #[.agg #[.bool (decide (K < 0)), .slice Az (digs K.natAbs).length cz, .int .i64 F], .int .i64 V]) (by simp [results, Tryd.results33, go_sem, fr0, fr1, fr2]) rfl ?_
  
  refine ⟨Az, cz, rfl, ?_, ?_⟩
  · exact (fin3 Lz.out Rr_z.out noint3 Gr).get (A := Az) (c := cz) (xs := digs K.natAbs) (by simp)
  · exact (fin3 Lz.out Rr_z.out noint3 Gr).1

set_option maxHeartbeats 4000000 in
set_option maxRecDepth 100000 in
theorem tsqrt_z_ (A : Option Addr) (c : Nat) (m x P M E : Int) (up : Bool) (w : World) (h : Dg w A c (digs m.natAbs)) (hl : (digs m.natAbs).length ≤ 10000) (r1 : Rt m x) (hT : T32 w) {p : Nat} (hP : (p : Int) = P) (p2 : 2 ≤ p) (p4 : p ≤ 400) (hs : RsOf (dv m x) p up M E) (hlm : (digs M.natAbs).length ≤ 900000) {K F V : Int} (hq : tot M E = (K, F, V)) (m0 : m = 0):
    Calls Tryd.prog 35 #[.agg #[.bool (decide (m < 0)), .slice A (digs m.natAbs).length c, .int .i64 x], .int .i64 P, .bool up] w fun e w' => Ye K F V w e w' := by
  have HR1 := Lib.hid r1
  have lx := Lib.hid hl
  have HQ := Lib.hid hq
  have x0 := r1.2.1
  have x1 := r1.2.2
  have LM := Lib.hid hlm
  have HPR := Lib.hid (precB_in (P := P) (by omega) (by omega))
  have D1 := Lib.hid (show decide (m = 0) = true by simp; omega)
  have dneg : decide (m < 0) = false := by simp; omega
  have HNEG := Lib.hid dneg
  obtain ⟨rfl, rfl⟩ := RsOf.uniq (by omega) (M := m) (E := x) ⟨r1.1, .inl ⟨by rw [m0, dv_zero], m0⟩⟩ hs
  have HT := Lib.hid hT
  clear hT
  have L0 := Lib.hid ((live_start w).add h)
  clear h hl r1 hs hq hP m0 dneg
  go_enter Tryd.func35, Tryd.ntmps35
  go_wp2_with fail
  obtain ⟨v1, hW, hb, Rx_1, Rr_1, Rsl_1⟩ := new3 w (.cells #[.bool (decide (m < 0)), .slice A (digs m.natAbs).length c, .int .i64 x] 26) (.cells #[.bool false, .slice none 0 0, .int .i64 0] 26) (.cells #[.bool (decide (m < 0)), .slice A (digs m.natAbs).length c, .int .i64 x] 26)
  rw [← hW]
  have L1 := ls L0 hb
  have Gx := gl0 L0.out
  have Gr := gl1 L0.out
  have Nxr : w.heap.size < w.heap.size + 1 := by omega
  have Gsl := gl2 L0.out
  have Nxsl : w.heap.size < w.heap.size + 1 + 1 := by omega
  have Nrsl : w.heap.size + 1 < w.heap.size + 1 + 1 := by omega
  clear hW hb
  refine (begin_1 Rsl_1.out (L1.out.get (A := A) (c := c) (xs := digs m.natAbs) (by simp)) (dyR_num HR1.out) (Nat.le_trans lx.out (by omega)) (k := 0) rfl).mono ?_
  rintro e w2 ⟨rfl, hb⟩
  have L2 := ls L1 hb
  have Rx_2 := co Rx_1 hb
  have Rr_2 := co Rr_1 hb
  have Rsl_2 := co Rsl_1 hb
  clear hb 
  go_wp2_with fail
  obtain ⟨w3, hW, hb, Rk_3⟩ := new1 w2 (.cells #[.int .i64 0] 66)
  rw [← hW]
  have L3 := ls L2 hb
  have Rx_3 := co Rx_2 hb
  have Rr_3 := co Rr_2 hb
  have Rsl_3 := co Rsl_2 hb
  have Gk := gl0 L2.out
  have Nxk := nl0 Rx_2.out
  have Nrk := nl0 Rr_2.out
  have Nslk := nl0 Rsl_2.out
  clear hW hb
  refine (precision_no _ 0 P _ (row_c Rk_3.out (i := 0) rfl) (.inl HPR.out)).mono ?_
  rintro e w4 ⟨rfl, rfl⟩
  have dneg := HNEG.out
  obtain ⟨fx0, zx0, fx1, zx1, fx2, zx2, xx⟩ := ly3 Rx_3.out
  go_wp2_with fail
  refine (tell_no _ 0 3 false _ (row_c Rk_3.out (i := 0) rfl) (.inl rfl)).mono ?_
  rintro e w5 ⟨rfl, rfl⟩
  clear dneg
  clear fx0 zx0 fx1 zx1 fx2 zx2 xx
  go_wp2_with fail
  refine (fails_any _ 0 false _ (row_c Rk_3.out (i := 0) rfl) rfl).mono ?_
  rintro e w6 ⟨rfl, rfl⟩
  obtain ⟨fx0, zx0, fx1, zx1, fx2, zx2, xx⟩ := ly3 Rx_3.out
  go_wp2_with fail
  refine (isz_d (x := x) D1.out).mono ?_
  rintro e w7 ⟨rfl, hb⟩
  have L7 := ls L3 hb
  clear fx0 zx0 fx1 zx1 fx2 zx2 xx
  have Rx_7 := co Rx_3 hb
  have Rr_7 := co Rr_3 hb
  have Rsl_7 := co Rsl_3 hb
  have Rk_7 := co Rk_3 hb
  clear hb 
  obtain ⟨fx0, zx0, fx1, zx1, fx2, zx2, xx⟩ := ly3 Rx_7.out
  go_wp2_with fail
  refine (answer_t Rk_7.out (L7.out.get (A := A) (c := c) (xs := digs m.natAbs) (by simp)) (Nat.le_trans LM.out (by omega)) HQ.out).mono ?_
  rintro e wz ⟨Az, cz, rfl, hd, hb⟩
  clear fx0 zx0 fx1 zx1 fx2 zx2 xx
  have Rr_z := Lib.hid ((hb.block (w.heap.size + 1) (by omega)).trans Rr_7.out)
  have Lz := Lib.hid (live_upto L7.out.1 hb Gk hd)
  clear hd hb
  obtain ⟨fr0, zr0, fr1, zr1, fr2, zr2, xr⟩ := ly3 Rr_z.out
  go_wp2
  refine bodyPost_ret (v := .tuple #[.agg #[.bool (decide (K < 0)), .slice Az (digs K.natAbs).length cz, .int .i64 F], .int .i64 V]) (by simp [results, Tryd.results35, go_sem, fr0, fr1, fr2]) rfl ?_
  
  refine ⟨Az, cz, rfl, ?_, ?_⟩
  · exact (fin3 Lz.out Rr_z.out noint3 Gr).get (A := Az) (c := cz) (xs := digs K.natAbs) (by simp)
  · exact (fin3 Lz.out Rr_z.out noint3 Gr).1

set_option maxHeartbeats 4000000 in
set_option maxRecDepth 100000 in
theorem tsqrt_b_ (A : Option Addr) (c : Nat) (m x P M E : Int) (up : Bool) (w : World) (h : Dg w A c (digs m.natAbs)) (hl : (digs m.natAbs).length ≤ 10000) (r1 : Rt m x) (hT : T32 w) {p : Nat} (hP : (p : Int) = P) (p2 : 2 ≤ p) (p4 : p ≤ 400) (hs : RsOf (dv m x) p up M E) (hlm : (digs M.natAbs).length ≤ 900000) {K F V : Int} (hq : tot M E = (K, F, V)) (m0 : 0 < m):
    Calls Tryd.prog 35 #[.agg #[.bool (decide (m < 0)), .slice A (digs m.natAbs).length c, .int .i64 x], .int .i64 P, .bool up] w fun e w' => Ye K F V w e w' := by
  have HR1 := Lib.hid r1
  have lx := Lib.hid hl
  have HQ := Lib.hid hq
  have x0 := r1.2.1
  have x1 := r1.2.2
  have LM := Lib.hid hlm
  have HPR := Lib.hid (precB_in (P := P) (by omega) (by omega))
  have D1 := Lib.hid (show decide (m = 0) = false by simp; omega)
  have dneg : decide (m < 0) = false := by simp; omega
  have HNEG := Lib.hid dneg
  have b1 := bl_bd hl
  obtain ⟨z1, hz1⟩ : ∃ z : Int, (blen m.natAbs : Int) = z := ⟨_, rfl⟩
  obtain ⟨k1, hk1⟩ : ∃ k : Int, max 0 (2 * P - z1) = k := ⟨_, rfl⟩
  obtain ⟨o, ho⟩ : ∃ o : Int, (x - k1) % 2 = o := ⟨_, rfl⟩
  obtain ⟨k, hk⟩ : ∃ k : Int, k1 + o = k := ⟨_, rfl⟩
  obtain ⟨kn, hkn⟩ : ∃ kn : Nat, kn = k.toNat := ⟨_, rfl⟩
  have hkk : k = (kn : Int) := by omega
  have hkb : kn ≤ 330000 := by omega
  have hkp : 2 * p ≤ blen m.natAbs + kn := by omega
  obtain ⟨hf, hhf⟩ : ∃ h : Int, x - k = 2 * h := ⟨(x - k) / 2, by omega⟩
  have hlN := up_len (q := m.natAbs) hl hkb
  obtain ⟨mo, hmo⟩ : ∃ t, decide (m.natAbs * 2 ^ kn - rt (m.natAbs * 2 ^ kn) * rt (m.natAbs * 2 ^ kn) ≠ 0) = t := ⟨_, rfl⟩
  have hkept := sqrt_kept (m := m) (x := x) (h := hf) (k := kn) (p := p) (up := up) (more := mo) m0 (by omega) hkp (by omega) hmo.symm
  have hu := RsOf.uniq (by omega) hkept.2 hs
  have HB := Lib.hid hkept.1
  obtain ⟨N, hN⟩ : ∃ N, m.natAbs * 2 ^ kn = N := ⟨_, rfl⟩
  rw [hN] at hlN hu HB hmo
  have hrl : rt N ≤ N := by
    have := (rt_spec N).1
    rcases Nat.eq_zero_or_pos (rt N) with h0 | h0
    · omega
    · exact Nat.le_trans (Nat.le_mul_of_pos_left _ h0) this
  have hlQ := digs_len_mono _ _ hrl
  have HMO := Lib.hid (show decide (0 < (digs (N - rt N * rt N)).length) = mo by rw [← hmo, decide_eq_decide]; have := @digs_nil (N - rt N * rt N); omega)
  obtain ⟨Q, hQ⟩ : ∃ Q, rt N = Q := ⟨_, rfl⟩
  rw [hQ] at hu HB hlQ HMO
  obtain ⟨R, hR⟩ : ∃ R, N - Q * Q = R := ⟨_, rfl⟩
  rw [hR] at HMO
  have DM := Lib.hid (fun (A : Option Addr) (c : Nat) W (h : Dg W A c (digs N)) => sqrt_d h (by omega))
  rw [hQ, hR] at DM
  have hu1 := hu.1
  have hu2 := hu.2
  have HM := Lib.hid (show nm (sg false (kept Q p mo (up != false))) = M by rw [← hu1]; cases up <;> rfl)
  have HE := Lib.hid (show nx (sg false (kept Q p mo (up != false))) (hf + (blen Q - p : Nat)) = E by rw [← hu2]; cases up <;> rfl)
  have HN := Lib.hid hN
  have HKK := Lib.hid hkk
  have HKB := Lib.hid (show kn ≤ 1000000 by omega)
  have HP2 := Lib.hid hP
  have HZ1 := Lib.hid hz1
  have LQ := Lib.hid (show (digs Q).length ≤ 30000 by omega)
  have LN := Lib.hid hlN
  obtain ⟨s0, hs0⟩ : ∃ s, 2 * P = s := ⟨_, rfl⟩
  obtain ⟨s1, hs1⟩ : ∃ s, s0 - z1 = s := ⟨_, rfl⟩
  have S0 := Lib.hid (show wrap64 (2 * P) = s0 by rw [IntWalk.wrap64_in _ ⟨by omega, by omega⟩]; exact hs0)
  have S1 := Lib.hid (show wrap64 (s0 - z1) = s1 by rw [IntWalk.wrap64_in _ ⟨by omega, by omega⟩]; exact hs1)
  have hmax : max 0 (2 * P - z1) = k1 := hk1
  have p0 : 2 ≤ P := by omega
  have p9 : P ≤ 400 := by omega
  have zz0 : 0 ≤ z1 := by omega
  have zz1 : z1 ≤ 320000 := by omega
  have k10 : 0 ≤ k1 := by omega
  have k19 : k1 ≤ 800 := by omega
  have o0 : 0 ≤ o := by omega
  have o1 : o ≤ 1 := by omega
  have hand : bits BinOp.and IntKind.i64 (x - k1) 1 = o := by rw [and_i64_1 _ (by omega) (by omega)]; exact ho
  have HAND := Lib.hid hand
  have HKO := Lib.hid (show wrap64 (k1 + bits BinOp.and IntKind.i64 (x - k1) 1) = k by rw [hand, IntWalk.wrap64_in _ ⟨by omega, by omega⟩]; exact hk)
  have HMAX := Lib.hid hmax
  have k0 : 0 ≤ k := by omega
  have k9 : k ≤ 1000 := by omega
  have HHF := Lib.hid hhf
  have hq2 : Int.tdiv (x - k) 2 = hf := by rw [hhf, Int.mul_comm]; exact Int.mul_tdiv_cancel _ (by omega)
  have HQ2 := Lib.hid hq2
  have hf0 : -70000 ≤ hf := by omega
  have hf9 : hf ≤ 70000 := by omega
  have HT := Lib.hid hT
  clear hT
  have L0 := Lib.hid ((live_start w).add h)
  clear h hl r1 hs hq hP m0 dneg hz1 hk1 ho hk hkn hkk hkb hkp hhf hlN hmo hkept hu hN hrl hlQ hQ hR hu1 hu2 hs0 hs1 hand hq2 b1 hmax
  go_enter Tryd.func35, Tryd.ntmps35
  go_wp2_with fail
  obtain ⟨v1, hW, hb, Rx_1, Rr_1, Rsl_1⟩ := new3 w (.cells #[.bool (decide (m < 0)), .slice A (digs m.natAbs).length c, .int .i64 x] 26) (.cells #[.bool false, .slice none 0 0, .int .i64 0] 26) (.cells #[.bool (decide (m < 0)), .slice A (digs m.natAbs).length c, .int .i64 x] 26)
  rw [← hW]
  have L1 := ls L0 hb
  have Gx := gl0 L0.out
  have Gr := gl1 L0.out
  have Nxr : w.heap.size < w.heap.size + 1 := by omega
  have Gsl := gl2 L0.out
  have Nxsl : w.heap.size < w.heap.size + 1 + 1 := by omega
  have Nrsl : w.heap.size + 1 < w.heap.size + 1 + 1 := by omega
  clear hW hb
  refine (begin_1 Rsl_1.out (L1.out.get (A := A) (c := c) (xs := digs m.natAbs) (by simp)) (dyR_num HR1.out) (Nat.le_trans lx.out (by omega)) (k := 0) rfl).mono ?_
  rintro e w2 ⟨rfl, hb⟩
  have L2 := ls L1 hb
  have Rx_2 := co Rx_1 hb
  have Rr_2 := co Rr_1 hb
  have Rsl_2 := co Rsl_1 hb
  clear hb 
  go_wp2_with fail
  obtain ⟨w3, hW, hb, Rk_3⟩ := new1 w2 (.cells #[.int .i64 0] 66)
  rw [← hW]
  have L3 := ls L2 hb
  have Rx_3 := co Rx_2 hb
  have Rr_3 := co Rr_2 hb
  have Rsl_3 := co Rsl_2 hb
  have Gk := gl0 L2.out
  have Nxk := nl0 Rx_2.out
  have Nrk := nl0 Rr_2.out
  have Nslk := nl0 Rsl_2.out
  clear hW hb
  refine (precision_no _ 0 P _ (row_c Rk_3.out (i := 0) rfl) (.inl HPR.out)).mono ?_
  rintro e w4 ⟨rfl, rfl⟩
  have dneg := HNEG.out
  obtain ⟨fx0, zx0, fx1, zx1, fx2, zx2, xx⟩ := ly3 Rx_3.out
  go_wp2_with fail
  refine (tell_no _ 0 3 false _ (row_c Rk_3.out (i := 0) rfl) (.inl rfl)).mono ?_
  rintro e w5 ⟨rfl, rfl⟩
  clear dneg
  clear fx0 zx0 fx1 zx1 fx2 zx2 xx
  go_wp2_with fail
  refine (fails_any _ 0 false _ (row_c Rk_3.out (i := 0) rfl) rfl).mono ?_
  rintro e w6 ⟨rfl, rfl⟩
  obtain ⟨fx0, zx0, fx1, zx1, fx2, zx2, xx⟩ := ly3 Rx_3.out
  go_wp2_with fail
  refine (isz_d (x := x) D1.out).mono ?_
  rintro e w7 ⟨rfl, hb⟩
  have L7 := ls L3 hb
  clear fx0 zx0 fx1 zx1 fx2 zx2 xx
  have Rx_7 := co Rx_3 hb
  have Rr_7 := co Rr_3 hb
  have Rsl_7 := co Rsl_3 hb
  have Rk_7 := co Rk_3 hb
  clear hb 
  obtain ⟨fx0, zx0, fx1, zx1, fx2, zx2, xx⟩ := ly3 Rx_7.out
  go_wp2_with fail
  refine (bits_b (L7.out.get (A := A) (c := c) (xs := digs m.natAbs) (by simp)) (Nat.le_trans lx.out (by omega)) HZ1.out).mono ?_
  rintro e w8 ⟨rfl, rfl⟩
  have hmax := HMAX.out
  clear fx0 zx0 fx1 zx1 fx2 zx2 xx
  obtain ⟨fx0, zx0, fx1, zx1, fx2, zx2, xx⟩ := ly3 Rx_7.out
  go_wp2_with fail
  rw [HKO.out]
  clear hmax
  refine (lift_n (N := N) (L7.out.get (A := A) (c := c) (xs := digs m.natAbs) (by simp)) (Nat.le_trans lx.out (by omega)) HKK.out HKB.out HN.out).mono ?_
  rintro e w9 ⟨A9, c9, rfl, hd, hb⟩
  have L9 := la L7 hb hd
  clear fx0 zx0 fx1 zx1 fx2 zx2 xx
  have Rx_9 := co Rx_7 hb
  have Rr_9 := co Rr_7 hb
  have Rsl_9 := co Rsl_7 hb
  have Rk_9 := co Rk_7 hb
  clear hb hd
  go_wp2_with fail
  refine (DM.out _ _ _ (L9.out.get (A := A9) (c := c9) (xs := digs N) (by simp))).mono ?_
  rintro e w10 ⟨A10, c10, B10, d10, rfl, hd, hd', hb⟩
  have L10 := Lib.hid (((L9.out.step hb).add hd).add hd')
  have Rx_10 := co Rx_9 hb
  have Rr_10 := co Rr_9 hb
  have Rsl_10 := co Rsl_9 hb
  have Rk_10 := co Rk_9 hb
  clear hb hd hd'
  have hq2 := HQ2.out
  have HMO2 := HMO.out
  obtain ⟨fx0, zx0, fx1, zx1, fx2, zx2, xx⟩ := ly3 Rx_10.out
  go_wp2_with fail
  obtain ⟨w11, hW, hb, Rq_11⟩ := new1 w10 (.cells #[.bool false, .slice A10 (digs Q).length c10, .int .i64 hf] 26)
  rw [← hW]
  have L11 := ls L10 hb
  have Rx_11 := co Rx_10 hb
  have Rr_11 := co Rr_10 hb
  have Rsl_11 := co Rsl_10 hb
  have Rk_11 := co Rk_10 hb
  have Gq := gl0 L10.out
  have Nxq := nl0 Rx_10.out
  have Nrq := nl0 Rr_10.out
  have Nslq := nl0 Rsl_10.out
  have Nkq := nl0 Rk_10.out
  clear hW hb
  clear fx0 zx0 fx1 zx1 fx2 zx2 xx
  refine (cut_any A10 c10 false up mo Q hf P p M E _ (L11.out.get (A := A10) (c := c10) (xs := digs Q) (by simp)) LQ.out (t32_live HT.out L11.out) HP2.out p2 p4 HB.out (by omega) (by omega) HM.out HE.out).mono ?_
  rintro e w12 ⟨A12, c12, rfl, hd, hb⟩
  have L12 := la L11 hb hd
  have Rx_12 := co Rx_11 hb
  have Rr_12 := co Rr_11 hb
  have Rsl_12 := co Rsl_11 hb
  have Rk_12 := co Rk_11 hb
  have Rq_12 := co Rq_11 hb
  clear hb hd
  clear hq2 HMO2
  go_wp2_with fail
  refine (answer_t Rk_12.out (L12.out.get (A := A12) (c := c12) (xs := digs M.natAbs) (by simp)) (Nat.le_trans LM.out (by omega)) HQ.out).mono ?_
  rintro e wz ⟨Az, cz, rfl, hd, hb⟩
  have Rr_z := Lib.hid ((hb.block (w.heap.size + 1) (by omega)).trans Rr_12.out)
  have Lz := Lib.hid (live_upto L12.out.1 hb Gk hd)
  clear hd hb
  obtain ⟨fr0, zr0, fr1, zr1, fr2, zr2, xr⟩ := ly3 Rr_z.out
  go_wp2
  refine bodyPost_ret (v := .tuple #[.agg #[.bool (decide (K < 0)), .slice Az (digs K.natAbs).length cz, .int .i64 F], .int .i64 V]) (by simp [results, Tryd.results35, go_sem, fr0, fr1, fr2]) rfl ?_
  
  refine ⟨Az, cz, rfl, ?_, ?_⟩
  · exact (fin3 Lz.out Rr_z.out noint3 Gr).get (A := Az) (c := cz) (xs := digs K.natAbs) (by simp)
  · exact (fin3 Lz.out Rr_z.out noint3 Gr).1
end Go.Proofs.YtaciohjobenipaaDoor
end

section
/-
  dyad.Round, Div, Sqrt of numbers that are not right, or to a precision that may not be.
-/
namespace Go.Proofs.YtaciohjobenipaaDoor
open Go.RowKit
set_option linter.unusedSimpArgs false
set_option linter.unusedVariables false
set_option maxHeartbeats 4000000 in
set_option maxRecDepth 100000 in
theorem round_w (A : Option Addr) (c : Nat) (s : Bool) (xs : List Nat) (x : Int) (P : Int) (up : Bool) (w : World) (h : Dg w A c xs) (hl : xs.length ≤ 9223372036854775807) (hq : (dyR s xs x) = false):
    Calls Tryd.prog 31 #[.agg #[.bool s, .slice A xs.length c, .int .i64 x], .int .i64 P, .bool up] w fun e w' => e = .returned (.tuple #[.agg #[.bool false, .slice none 0 0, .int .i64 0], .int .i64 1]) ∧ Below w.heap.size w w' := by
  have lx := Lib.hid hl
  have HQ := Lib.hid hq
  have L0 := Lib.hid ((live_start w).add h)
  clear h hl hq
  go_enter Tryd.func31, Tryd.ntmps31
  go_wp2_with fail
  obtain ⟨v1, hW, hb, Rx_1, Rr_1, Rsl_1⟩ := new3 w (.cells #[.bool s, .slice A xs.length c, .int .i64 x] 26) (.cells #[.bool false, .slice none 0 0, .int .i64 0] 26) (.cells #[.bool s, .slice A xs.length c, .int .i64 x] 26)
  rw [← hW]
  have L1 := ls L0 hb
  have Gx := gl0 L0.out
  have Gr := gl1 L0.out
  have Nxr : w.heap.size < w.heap.size + 1 := by omega
  have Gsl := gl2 L0.out
  have Nxsl : w.heap.size < w.heap.size + 1 + 1 := by omega
  have Nrsl : w.heap.size + 1 < w.heap.size + 1 + 1 := by omega
  clear hW hb
  refine (begin_1 Rsl_1.out (L1.out.get (A := A) (c := c) (xs := xs) (by simp)) HQ.out lx.out (k := 1) rfl).mono ?_
  rintro e w2 ⟨rfl, hb⟩
  have L2 := ls L1 hb
  have Rx_2 := co Rx_1 hb
  have Rr_2 := co Rr_1 hb
  have Rsl_2 := co Rsl_1 hb
  clear hb 
  go_wp2_with fail
  obtain ⟨w3, hW, hb, Rk_3⟩ := new1 w2 (.cells #[.int .i64 1] 66)
  rw [← hW]
  have L3 := ls L2 hb
  have Rx_3 := co Rx_2 hb
  have Rr_3 := co Rr_2 hb
  have Rsl_3 := co Rsl_2 hb
  have Gk := gl0 L2.out
  have Nxk := nl0 Rx_2.out
  have Nrk := nl0 Rr_2.out
  have Nslk := nl0 Rsl_2.out
  clear hW hb
  refine (precision_no _ 1 P _ (row_c Rk_3.out (i := 0) rfl) (.inr rfl)).mono ?_
  rintro e w4 ⟨rfl, rfl⟩
  go_wp2_with fail
  refine (fails_any _ 1 true _ (row_c Rk_3.out (i := 0) rfl) rfl).mono ?_
  rintro e w5 ⟨rfl, rfl⟩
  go_wp2_with fail
  refine (none_any _ 1 _ (row_c Rk_3.out (i := 0) rfl) (heap_lt Rk_3.out)).mono ?_
  rintro e w6 ⟨rfl, hb⟩
  have L6 := ls L3 hb
  have Rx_6 := co Rx_3 hb
  have Rr_6 := co Rr_3 hb
  have Rsl_6 := co Rsl_3 hb
  have Rk_6 := co Rk_3 hb
  clear hb 
  obtain ⟨fr0, zr0, fr1, zr1, fr2, zr2, xr⟩ := ly3 Rr_6.out
  go_wp2
  refine bodyPost_ret (v := .tuple #[.agg #[.bool false, .slice none 0 0, .int .i64 0], .int .i64 1]) (by simp [results, Tryd.results31, go_sem, fr0, fr1, fr2]) rfl ?_
  
  exact ⟨rfl, (fin3 L6.out Rr_6.out noint3 Gr).1⟩

set_option maxHeartbeats 4000000 in
set_option maxRecDepth 100000 in
theorem round_p (A : Option Addr) (c : Nat) (s : Bool) (xs : List Nat) (x : Int) (P : Int) (up : Bool) (w : World) (h : Dg w A c xs) (hl : xs.length ≤ 9223372036854775807) (hq : (dyR s xs x) = true) (hp : precB P = false):
    Calls Tryd.prog 31 #[.agg #[.bool s, .slice A xs.length c, .int .i64 x], .int .i64 P, .bool up] w fun e w' => e = .returned (.tuple #[.agg #[.bool false, .slice none 0 0, .int .i64 0], .int .i64 1]) ∧ Below w.heap.size w w' := by
  have lx := Lib.hid hl
  have HQ := Lib.hid hq
  have HP := Lib.hid hp
  have L0 := Lib.hid ((live_start w).add h)
  clear h hl hq hp
  go_enter Tryd.func31, Tryd.ntmps31
  go_wp2_with fail
  obtain ⟨v1, hW, hb, Rx_1, Rr_1, Rsl_1⟩ := new3 w (.cells #[.bool s, .slice A xs.length c, .int .i64 x] 26) (.cells #[.bool false, .slice none 0 0, .int .i64 0] 26) (.cells #[.bool s, .slice A xs.length c, .int .i64 x] 26)
  rw [← hW]
  have L1 := ls L0 hb
  have Gx := gl0 L0.out
  have Gr := gl1 L0.out
  have Nxr : w.heap.size < w.heap.size + 1 := by omega
  have Gsl := gl2 L0.out
  have Nxsl : w.heap.size < w.heap.size + 1 + 1 := by omega
  have Nrsl : w.heap.size + 1 < w.heap.size + 1 + 1 := by omega
  clear hW hb
  refine (begin_1 Rsl_1.out (L1.out.get (A := A) (c := c) (xs := xs) (by simp)) HQ.out lx.out (k := 0) rfl).mono ?_
  rintro e w2 ⟨rfl, hb⟩
  have L2 := ls L1 hb
  have Rx_2 := co Rx_1 hb
  have Rr_2 := co Rr_1 hb
  have Rsl_2 := co Rsl_1 hb
  clear hb 
  go_wp2_with fail
  obtain ⟨w3, hW, hb, Rk_3⟩ := new1 w2 (.cells #[.int .i64 0] 66)
  rw [← hW]
  have L3 := ls L2 hb
  have Rx_3 := co Rx_2 hb
  have Rr_3 := co Rr_2 hb
  have Rsl_3 := co Rsl_2 hb
  have Gk := gl0 L2.out
  have Nxk := nl0 Rx_2.out
  have Nrk := nl0 Rr_2.out
  have Nslk := nl0 Rsl_2.out
  clear hW hb
  refine (precision_yes _ P _ (row_c Rk_3.out (i := 0) rfl) (frozen_of_row _ _ 0 _ _ Rk_3.out) HP.out).mono ?_
  rintro e w4 ⟨rfl, rfl⟩
  obtain ⟨w5, hW⟩ : ∃ W : World, W = (w3.setCell ⟨w2.heap.size, 0, none⟩ (.int .i64 1)) := ⟨_, rfl⟩
  rw [← hW]
  have hO : Only (w2.heap.size) w3 w5 := by rw [hW]; exact ((Only.refl (w2.heap.size) w3).setCell 0 _)
  have L5 := Lib.hid (live_only L3.out hO Rk_3.out noint_re Gk)
  have Rx_5 := Lib.hid ((hO.block _ (by omega)).trans Rx_3.out)
  have Rr_5 := Lib.hid ((hO.block _ (by omega)).trans Rr_3.out)
  have Rsl_5 := Lib.hid ((hO.block _ (by omega)).trans Rsl_3.out)
  have Rk_5 := Lib.hid (show w5.heap[w2.heap.size]? = some (.cells #[.int .i64 1] 66 (0, 0)) by rw [hW]; exact (heap_setCell_same _ _ 0 _ _ _ Rk_3.out))
  clear hW hO
  go_wp2_with fail
  refine (fails_any _ 1 true _ (row_c Rk_5.out (i := 0) rfl) rfl).mono ?_
  rintro e w6 ⟨rfl, rfl⟩
  go_wp2_with fail
  refine (none_any _ 1 _ (row_c Rk_5.out (i := 0) rfl) (heap_lt Rk_5.out)).mono ?_
  rintro e w7 ⟨rfl, hb⟩
  have L7 := ls L5 hb
  have Rx_7 := co Rx_5 hb
  have Rr_7 := co Rr_5 hb
  have Rsl_7 := co Rsl_5 hb
  have Rk_7 := co Rk_5 hb
  clear hb 
  obtain ⟨fr0, zr0, fr1, zr1, fr2, zr2, xr⟩ := ly3 Rr_7.out
  go_wp2
  refine bodyPost_ret (v := .tuple #[.agg #[.bool false, .slice none 0 0, .int .i64 0], .int .i64 1]) (by simp [results, Tryd.results31, go_sem, fr0, fr1, fr2]) rfl ?_
  
  exact ⟨rfl, (fin3 L7.out Rr_7.out noint3 Gr).1⟩

set_option maxHeartbeats 4000000 in
set_option maxRecDepth 100000 in
theorem sqrt_w (A : Option Addr) (c : Nat) (s : Bool) (xs : List Nat) (x : Int) (P : Int) (up : Bool) (w : World) (h : Dg w A c xs) (hl : xs.length ≤ 9223372036854775807) (hq : (dyR s xs x) = false):
    Calls Tryd.prog 35 #[.agg #[.bool s, .slice A xs.length c, .int .i64 x], .int .i64 P, .bool up] w fun e w' => e = .returned (.tuple #[.agg #[.bool false, .slice none 0 0, .int .i64 0], .int .i64 1]) ∧ Below w.heap.size w w' := by
  have lx := Lib.hid hl
  have HQ := Lib.hid hq
  have L0 := Lib.hid ((live_start w).add h)
  clear h hl hq
  go_enter Tryd.func35, Tryd.ntmps35
  go_wp2_with fail
  obtain ⟨v1, hW, hb, Rx_1, Rr_1, Rsl_1⟩ := new3 w (.cells #[.bool s, .slice A xs.length c, .int .i64 x] 26) (.cells #[.bool false, .slice none 0 0, .int .i64 0] 26) (.cells #[.bool s, .slice A xs.length c, .int .i64 x] 26)
  rw [← hW]
  have L1 := ls L0 hb
  have Gx := gl0 L0.out
  have Gr := gl1 L0.out
  have Nxr : w.heap.size < w.heap.size + 1 := by omega
  have Gsl := gl2 L0.out
  have Nxsl : w.heap.size < w.heap.size + 1 + 1 := by omega
  have Nrsl : w.heap.size + 1 < w.heap.size + 1 + 1 := by omega
  clear hW hb
  refine (begin_1 Rsl_1.out (L1.out.get (A := A) (c := c) (xs := xs) (by simp)) HQ.out lx.out (k := 1) rfl).mono ?_
  rintro e w2 ⟨rfl, hb⟩
  have L2 := ls L1 hb
  have Rx_2 := co Rx_1 hb
  have Rr_2 := co Rr_1 hb
  have Rsl_2 := co Rsl_1 hb
  clear hb 
  go_wp2_with fail
  obtain ⟨w3, hW, hb, Rk_3⟩ := new1 w2 (.cells #[.int .i64 1] 66)
  rw [← hW]
  have L3 := ls L2 hb
  have Rx_3 := co Rx_2 hb
  have Rr_3 := co Rr_2 hb
  have Rsl_3 := co Rsl_2 hb
  have Gk := gl0 L2.out
  have Nxk := nl0 Rx_2.out
  have Nrk := nl0 Rr_2.out
  have Nslk := nl0 Rsl_2.out
  clear hW hb
  refine (precision_no _ 1 P _ (row_c Rk_3.out (i := 0) rfl) (.inr rfl)).mono ?_
  rintro e w4 ⟨rfl, rfl⟩
  obtain ⟨fx0, zx0, fx1, zx1, fx2, zx2, xx⟩ := ly3 Rx_3.out
  go_wp2_with fail
  refine (tell_no _ 1 3 s _ (row_c Rk_3.out (i := 0) rfl) (.inr rfl)).mono ?_
  rintro e w5 ⟨rfl, rfl⟩
  clear fx0 zx0 fx1 zx1 fx2 zx2 xx
  go_wp2_with fail
  refine (fails_any _ 1 true _ (row_c Rk_3.out (i := 0) rfl) rfl).mono ?_
  rintro e w6 ⟨rfl, rfl⟩
  go_wp2_with fail
  refine (none_any _ 1 _ (row_c Rk_3.out (i := 0) rfl) (heap_lt Rk_3.out)).mono ?_
  rintro e w7 ⟨rfl, hb⟩
  have L7 := ls L3 hb
  have Rx_7 := co Rx_3 hb
  have Rr_7 := co Rr_3 hb
  have Rsl_7 := co Rsl_3 hb
  have Rk_7 := co Rk_3 hb
  clear hb 
  obtain ⟨fr0, zr0, fr1, zr1, fr2, zr2, xr⟩ := ly3 Rr_7.out
  go_wp2
  refine bodyPost_ret (v := .tuple #[.agg #[.bool false, .slice none 0 0, .int .i64 0], .int .i64 1]) (by simp [results, Tryd.results35, go_sem, fr0, fr1, fr2]) rfl ?_
  
  exact ⟨rfl, (fin3 L7.out Rr_7.out noint3 Gr).1⟩

set_option maxHeartbeats 4000000 in
set_option maxRecDepth 100000 in
theorem sqrt_p (A : Option Addr) (c : Nat) (s : Bool) (xs : List Nat) (x : Int) (P : Int) (up : Bool) (w : World) (h : Dg w A c xs) (hl : xs.length ≤ 9223372036854775807) (hq : (dyR s xs x) = true) (hp : precB P = false):
    Calls Tryd.prog 35 #[.agg #[.bool s, .slice A xs.length c, .int .i64 x], .int .i64 P, .bool up] w fun e w' => e = .returned (.tuple #[.agg #[.bool false, .slice none 0 0, .int .i64 0], .int .i64 1]) ∧ Below w.heap.size w w' := by
  have lx := Lib.hid hl
  have HQ := Lib.hid hq
  have HP := Lib.hid hp
  have L0 := Lib.hid ((live_start w).add h)
  clear h hl hq hp
  go_enter Tryd.func35, Tryd.ntmps35
  go_wp2_with fail
  obtain ⟨v1, hW, hb, Rx_1, Rr_1, Rsl_1⟩ := new3 w (.cells #[.bool s, .slice A xs.length c, .int .i64 x] 26) (.cells #[.bool false, .slice none 0 0, .int .i64 0] 26) (.cells #[.bool s, .slice A xs.length c, .int .i64 x] 26)
  rw [← hW]
  have L1 := ls L0 hb
  have Gx := gl0 L0.out
  have Gr := gl1 L0.out
  have Nxr : w.heap.size < w.heap.size + 1 := by omega
  have Gsl := gl2 L0.out
  have Nxsl : w.heap.size < w.heap.size + 1 + 1 := by omega
  have Nrsl : w.heap.size + 1 < w.heap.size + 1 + 1 := by omega
  clear hW hb
  refine (begin_1 Rsl_1.out (L1.out.get (A := A) (c := c) (xs := xs) (by simp)) HQ.out lx.out (k := 0) rfl).mono ?_
  rintro e w2 ⟨rfl, hb⟩
  have L2 := ls L1 hb
  have Rx_2 := co Rx_1 hb
  have Rr_2 := co Rr_1 hb
  have Rsl_2 := co Rsl_1 hb
  clear hb 
  go_wp2_with fail
  obtain ⟨w3, hW, hb, Rk_3⟩ := new1 w2 (.cells #[.int .i64 0] 66)
  rw [← hW]
  have L3 := ls L2 hb
  have Rx_3 := co Rx_2 hb
  have Rr_3 := co Rr_2 hb
  have Rsl_3 := co Rsl_2 hb
  have Gk := gl0 L2.out
  have Nxk := nl0 Rx_2.out
  have Nrk := nl0 Rr_2.out
  have Nslk := nl0 Rsl_2.out
  clear hW hb
  refine (precision_yes _ P _ (row_c Rk_3.out (i := 0) rfl) (frozen_of_row _ _ 0 _ _ Rk_3.out) HP.out).mono ?_
  rintro e w4 ⟨rfl, rfl⟩
  obtain ⟨w5, hW⟩ : ∃ W : World, W = (w3.setCell ⟨w2.heap.size, 0, none⟩ (.int .i64 1)) := ⟨_, rfl⟩
  rw [← hW]
  have hO : Only (w2.heap.size) w3 w5 := by rw [hW]; exact ((Only.refl (w2.heap.size) w3).setCell 0 _)
  have L5 := Lib.hid (live_only L3.out hO Rk_3.out noint_re Gk)
  have Rx_5 := Lib.hid ((hO.block _ (by omega)).trans Rx_3.out)
  have Rr_5 := Lib.hid ((hO.block _ (by omega)).trans Rr_3.out)
  have Rsl_5 := Lib.hid ((hO.block _ (by omega)).trans Rsl_3.out)
  have Rk_5 := Lib.hid (show w5.heap[w2.heap.size]? = some (.cells #[.int .i64 1] 66 (0, 0)) by rw [hW]; exact (heap_setCell_same _ _ 0 _ _ _ Rk_3.out))
  clear hW hO
  obtain ⟨fx0, zx0, fx1, zx1, fx2, zx2, xx⟩ := ly3 Rx_5.out
  go_wp2_with fail
  refine (tell_no _ 1 3 s _ (row_c Rk_5.out (i := 0) rfl) (.inr rfl)).mono ?_
  rintro e w6 ⟨rfl, rfl⟩
  clear fx0 zx0 fx1 zx1 fx2 zx2 xx
  go_wp2_with fail
  refine (fails_any _ 1 true _ (row_c Rk_5.out (i := 0) rfl) rfl).mono ?_
  rintro e w7 ⟨rfl, rfl⟩
  go_wp2_with fail
  refine (none_any _ 1 _ (row_c Rk_5.out (i := 0) rfl) (heap_lt Rk_5.out)).mono ?_
  rintro e w8 ⟨rfl, hb⟩
  have L8 := ls L5 hb
  have Rx_8 := co Rx_5 hb
  have Rr_8 := co Rr_5 hb
  have Rsl_8 := co Rsl_5 hb
  have Rk_8 := co Rk_5 hb
  clear hb 
  obtain ⟨fr0, zr0, fr1, zr1, fr2, zr2, xr⟩ := ly3 Rr_8.out
  go_wp2
  refine bodyPost_ret (v := .tuple #[.agg #[.bool false, .slice none 0 0, .int .i64 0], .int .i64 1]) (by simp [results, Tryd.results35, go_sem, fr0, fr1, fr2]) rfl ?_
  
  exact ⟨rfl, (fin3 L8.out Rr_8.out noint3 Gr).1⟩

set_option maxHeartbeats 4000000 in
set_option maxRecDepth 100000 in
theorem div_w (A B : Option Addr) (c d : Nat) (s r : Bool) (xs ys : List Nat) (x y : Int) (P : Int) (up : Bool) (w : World) (h : Dg w A c xs) (h' : Dg w B d ys) (hl : xs.length ≤ 9223372036854775807) (hl' : ys.length ≤ 9223372036854775807) (hq : (dyR s xs x && dyR r ys y) = false):
    Calls Tryd.prog 33 #[.agg #[.bool s, .slice A xs.length c, .int .i64 x], .agg #[.bool r, .slice B ys.length d, .int .i64 y], .int .i64 P, .bool up] w fun e w' => e = .returned (.tuple #[.agg #[.bool false, .slice none 0 0, .int .i64 0], .int .i64 1]) ∧ Below w.heap.size w w' := by
  have lx := Lib.hid hl
  have HQ := Lib.hid hq
  have ly := Lib.hid hl'
  obtain ⟨q, hz⟩ : ∃ q, ((ys.length : Int) == 0) = q := ⟨_, rfl⟩
  have HZ := Lib.hid hz
  have L0 := Lib.hid (((live_start w).add h).add h')
  clear h hl hq h' hl' hz
  go_enter Tryd.func33, Tryd.ntmps33
  go_wp2_with fail
  obtain ⟨v1, hW, hb, Rx_1, Ry_1, Rr_1, Rsl_1⟩ := new4 w (.cells #[.bool s, .slice A xs.length c, .int .i64 x] 26) (.cells #[.bool r, .slice B ys.length d, .int .i64 y] 26) (.cells #[.bool false, .slice none 0 0, .int .i64 0] 26) (.cells #[.bool s, .slice A xs.length c, .int .i64 x, .bool r, .slice B ys.length d, .int .i64 y] 26)
  rw [← hW]
  have L1 := ls L0 hb
  have Gx := gl0 L0.out
  have Gy := gl1 L0.out
  have Nxy : w.heap.size < w.heap.size + 1 := by omega
  have Gr := gl2 L0.out
  have Nxr : w.heap.size < w.heap.size + 1 + 1 := by omega
  have Nyr : w.heap.size + 1 < w.heap.size + 1 + 1 := by omega
  have Gsl := gl3 L0.out
  have Nxsl : w.heap.size < w.heap.size + 1 + 1 + 1 := by omega
  have Nysl : w.heap.size + 1 < w.heap.size + 1 + 1 + 1 := by omega
  have Nrsl : w.heap.size + 1 + 1 < w.heap.size + 1 + 1 + 1 := by omega
  clear hW hb
  refine (begin_2 Rsl_1.out (L1.out.get (A := A) (c := c) (xs := xs) (by simp)) (L1.out.get (A := B) (c := d) (xs := ys) (by simp)) rfl rfl lx.out ly.out (k := 1) (by rw [HQ.out]; rfl)).mono ?_
  rintro e w2 ⟨rfl, hb⟩
  have L2 := ls L1 hb
  have Rx_2 := co Rx_1 hb
  have Ry_2 := co Ry_1 hb
  have Rr_2 := co Rr_1 hb
  have Rsl_2 := co Rsl_1 hb
  clear hb 
  go_wp2_with fail
  obtain ⟨w3, hW, hb, Rk_3⟩ := new1 w2 (.cells #[.int .i64 1] 66)
  rw [← hW]
  have L3 := ls L2 hb
  have Rx_3 := co Rx_2 hb
  have Ry_3 := co Ry_2 hb
  have Rr_3 := co Rr_2 hb
  have Rsl_3 := co Rsl_2 hb
  have Gk := gl0 L2.out
  have Nxk := nl0 Rx_2.out
  have Nyk := nl0 Ry_2.out
  have Nrk := nl0 Rr_2.out
  have Nslk := nl0 Rsl_2.out
  clear hW hb
  refine (precision_no _ 1 P _ (row_c Rk_3.out (i := 0) rfl) (.inr rfl)).mono ?_
  rintro e w4 ⟨rfl, rfl⟩
  obtain ⟨fy0, zy0, fy1, zy1, fy2, zy2, xy⟩ := ly3 Ry_3.out
  go_wp2_with fail
  refine (isZero_any B ys.length d r y _ q HZ.out).mono ?_
  rintro e w5 ⟨rfl, hb⟩
  have L5 := ls L3 hb
  clear fy0 zy0 fy1 zy1 fy2 zy2 xy
  have Rx_5 := co Rx_3 hb
  have Ry_5 := co Ry_3 hb
  have Rr_5 := co Rr_3 hb
  have Rsl_5 := co Rsl_3 hb
  have Rk_5 := co Rk_3 hb
  clear hb 
  go_wp2_with fail
  refine (tell_no _ 1 3 q _ (row_c Rk_5.out (i := 0) rfl) (.inr rfl)).mono ?_
  rintro e w6 ⟨rfl, rfl⟩
  go_wp2_with fail
  refine (fails_any _ 1 true _ (row_c Rk_5.out (i := 0) rfl) rfl).mono ?_
  rintro e w7 ⟨rfl, rfl⟩
  go_wp2_with fail
  refine (none_any _ 1 _ (row_c Rk_5.out (i := 0) rfl) (heap_lt Rk_5.out)).mono ?_
  rintro e w8 ⟨rfl, hb⟩
  have L8 := ls L5 hb
  have Rx_8 := co Rx_5 hb
  have Ry_8 := co Ry_5 hb
  have Rr_8 := co Rr_5 hb
  have Rsl_8 := co Rsl_5 hb
  have Rk_8 := co Rk_5 hb
  clear hb 
  obtain ⟨fr0, zr0, fr1, zr1, fr2, zr2, xr⟩ := ly3 Rr_8.out
  go_wp2
  refine bodyPost_ret (v := .tuple #[.agg #[.bool false, .slice none 0 0, .int .i64 0], .int .i64 1]) (by simp [results, Tryd.results33, go_sem, fr0, fr1, fr2]) rfl ?_
  
  exact ⟨rfl, (fin3 L8.out Rr_8.out noint3 Gr).1⟩

set_option maxHeartbeats 4000000 in
set_option maxRecDepth 100000 in
theorem div_p (A B : Option Addr) (c d : Nat) (s r : Bool) (xs ys : List Nat) (x y : Int) (P : Int) (up : Bool) (w : World) (h : Dg w A c xs) (h' : Dg w B d ys) (hl : xs.length ≤ 9223372036854775807) (hl' : ys.length ≤ 9223372036854775807) (hq : (dyR s xs x && dyR r ys y) = true) (hp : precB P = false):
    Calls Tryd.prog 33 #[.agg #[.bool s, .slice A xs.length c, .int .i64 x], .agg #[.bool r, .slice B ys.length d, .int .i64 y], .int .i64 P, .bool up] w fun e w' => e = .returned (.tuple #[.agg #[.bool false, .slice none 0 0, .int .i64 0], .int .i64 1]) ∧ Below w.heap.size w w' := by
  have lx := Lib.hid hl
  have HQ := Lib.hid hq
  have ly := Lib.hid hl'
  obtain ⟨q, hz⟩ : ∃ q, ((ys.length : Int) == 0) = q := ⟨_, rfl⟩
  have HZ := Lib.hid hz
  have HP := Lib.hid hp
  have L0 := Lib.hid (((live_start w).add h).add h')
  clear h hl hq h' hl' hz hp
  go_enter Tryd.func33, Tryd.ntmps33
  go_wp2_with fail
  obtain ⟨v1, hW, hb, Rx_1, Ry_1, Rr_1, Rsl_1⟩ := new4 w (.cells #[.bool s, .slice A xs.length c, .int .i64 x] 26) (.cells #[.bool r, .slice B ys.length d, .int .i64 y] 26) (.cells #[.bool false, .slice none 0 0, .int .i64 0] 26) (.cells #[.bool s, .slice A xs.length c, .int .i64 x, .bool r, .slice B ys.length d, .int .i64 y] 26)
  rw [← hW]
  have L1 := ls L0 hb
  have Gx := gl0 L0.out
  have Gy := gl1 L0.out
  have Nxy : w.heap.size < w.heap.size + 1 := by omega
  have Gr := gl2 L0.out
  have Nxr : w.heap.size < w.heap.size + 1 + 1 := by omega
  have Nyr : w.heap.size + 1 < w.heap.size + 1 + 1 := by omega
  have Gsl := gl3 L0.out
  have Nxsl : w.heap.size < w.heap.size + 1 + 1 + 1 := by omega
  have Nysl : w.heap.size + 1 < w.heap.size + 1 + 1 + 1 := by omega
  have Nrsl : w.heap.size + 1 + 1 < w.heap.size + 1 + 1 + 1 := by omega
  clear hW hb
  refine (begin_2 Rsl_1.out (L1.out.get (A := A) (c := c) (xs := xs) (by simp)) (L1.out.get (A := B) (c := d) (xs := ys) (by simp)) rfl rfl lx.out ly.out (k := 0) (by rw [HQ.out]; rfl)).mono ?_
  rintro e w2 ⟨rfl, hb⟩
  have L2 := ls L1 hb
  have Rx_2 := co Rx_1 hb
  have Ry_2 := co Ry_1 hb
  have Rr_2 := co Rr_1 hb
  have Rsl_2 := co Rsl_1 hb
  clear hb 
  go_wp2_with fail
  obtain ⟨w3, hW, hb, Rk_3⟩ := new1 w2 (.cells #[.int .i64 0] 66)
  rw [← hW]
  have L3 := ls L2 hb
  have Rx_3 := co Rx_2 hb
  have Ry_3 := co Ry_2 hb
  have Rr_3 := co Rr_2 hb
  have Rsl_3 := co Rsl_2 hb
  have Gk := gl0 L2.out
  have Nxk := nl0 Rx_2.out
  have Nyk := nl0 Ry_2.out
  have Nrk := nl0 Rr_2.out
  have Nslk := nl0 Rsl_2.out
  clear hW hb
  refine (precision_yes _ P _ (row_c Rk_3.out (i := 0) rfl) (frozen_of_row _ _ 0 _ _ Rk_3.out) HP.out).mono ?_
  rintro e w4 ⟨rfl, rfl⟩
  obtain ⟨w5, hW⟩ : ∃ W : World, W = (w3.setCell ⟨w2.heap.size, 0, none⟩ (.int .i64 1)) := ⟨_, rfl⟩
  rw [← hW]
  have hO : Only (w2.heap.size) w3 w5 := by rw [hW]; exact ((Only.refl (w2.heap.size) w3).setCell 0 _)
  have L5 := Lib.hid (live_only L3.out hO Rk_3.out noint_re Gk)
  have Rx_5 := Lib.hid ((hO.block _ (by omega)).trans Rx_3.out)
  have Ry_5 := Lib.hid ((hO.block _ (by omega)).trans Ry_3.out)
  have Rr_5 := Lib.hid ((hO.block _ (by omega)).trans Rr_3.out)
  have Rsl_5 := Lib.hid ((hO.block _ (by omega)).trans Rsl_3.out)
  have Rk_5 := Lib.hid (show w5.heap[w2.heap.size]? = some (.cells #[.int .i64 1] 66 (0, 0)) by rw [hW]; exact (heap_setCell_same _ _ 0 _ _ _ Rk_3.out))
  clear hW hO
  obtain ⟨fy0, zy0, fy1, zy1, fy2, zy2, xy⟩ := ly3 Ry_5.out
  go_wp2_with fail
  refine (isZero_any B ys.length d r y _ q HZ.out).mono ?_
  rintro e w6 ⟨rfl, hb⟩
  have L6 := ls L5 hb
  clear fy0 zy0 fy1 zy1 fy2 zy2 xy
  have Rx_6 := co Rx_5 hb
  have Ry_6 := co Ry_5 hb
  have Rr_6 := co Rr_5 hb
  have Rsl_6 := co Rsl_5 hb
  have Rk_6 := co Rk_5 hb
  clear hb 
  go_wp2_with fail
  refine (tell_no _ 1 3 q _ (row_c Rk_6.out (i := 0) rfl) (.inr rfl)).mono ?_
  rintro e w7 ⟨rfl, rfl⟩
  go_wp2_with fail
  refine (fails_any _ 1 true _ (row_c Rk_6.out (i := 0) rfl) rfl).mono ?_
  rintro e w8 ⟨rfl, rfl⟩
  go_wp2_with fail
  refine (none_any _ 1 _ (row_c Rk_6.out (i := 0) rfl) (heap_lt Rk_6.out)).mono ?_
  rintro e w9 ⟨rfl, hb⟩
  have L9 := ls L6 hb
  have Rx_9 := co Rx_6 hb
  have Ry_9 := co Ry_6 hb
  have Rr_9 := co Rr_6 hb
  have Rsl_9 := co Rsl_6 hb
  have Rk_9 := co Rk_6 hb
  clear hb 
  obtain ⟨fr0, zr0, fr1, zr1, fr2, zr2, xr⟩ := ly3 Rr_9.out
  go_wp2
  refine bodyPost_ret (v := .tuple #[.agg #[.bool false, .slice none 0 0, .int .i64 0], .int .i64 1]) (by simp [results, Tryd.results33, go_sem, fr0, fr1, fr2]) rfl ?_
  
  exact ⟨rfl, (fin3 L9.out Rr_9.out noint3 Gr).1⟩
end Go.Proofs.YtaciohjobenipaaDoor
end

section
/-
  Both sides with one answer: Round, Div, Sqrt.
-/
namespace Go.Proofs.YtaciohjobenipaaDoor
open Go.RowKit
set_option linter.unusedSimpArgs false
set_option linter.unusedVariables false
theorem rd_keptU {m x M E : Int} {p : Nat} {up : Bool} (hn : Nf m x) (p1 : 1 ≤ p) (hs : RdOf (dv m x) p up M E) : nm (sg (decide (m < 0)) (kept m.natAbs p false (up != decide (m < 0)))) = M ∧ nx (sg (decide (m < 0)) (kept m.natAbs p false (up != decide (m < 0)))) (x + (blen m.natAbs - p : Nat)) = E := by
  rcases Nat.lt_or_ge p (blen m.natAbs) with h | h
  · have hk := rd_kept (q := m.natAbs) (p := p) (more := false) (up := up) (s := decide (m < 0)) (r := dv (m.natAbs : Int) x) (e := x) (by omega) p1 Rat.le_refl (dv_lt.2 (by omega)) (by simp)
    rw [← dv_sign] at hk
    exact RdOf.uniq hk hs
  · obtain ⟨rfl, rfl⟩ := RdOf.uniq (rd_self (up := up) hn (show bl m ≤ p from h)) hs
    rw [kept_small h, show blen m.natAbs - p = 0 by omega, sg_dz']
    have := IsD.of (m := m) (e := x) ⟨hn, rfl⟩
    simpa using this
theorem rd_lenU {r : Rat} {p : Nat} {up : Bool} {M E : Int} (p1 : 1 ≤ p) (p4 : p ≤ 400) (hs : RdOf r p up M E) : (digs M.natAbs).length ≤ 900000 := by
  have h1 := hs.bits p1
  have h2 := len_bl M
  omega
theorem rs_lenU {m x : Int} {p : Nat} {up : Bool} {M E : Int} (p1 : 1 ≤ p) (p4 : p ≤ 400) (r1 : Rt m x) (hl : (digs m.natAbs).length ≤ 100) (hs : RsOf (dv m x) p up M E) : (digs M.natAbs).length ≤ 900000 := by
  have hb : bl m ≤ 3200 := bl_bd (k := 100) hl
  have b : Bd (-131072) 140000 m x := ⟨r1.1, by
    have := r1.2
    by_cases h0 : m = 0
    · exact .inl h0
    · exact .inr ⟨by omega, by omega⟩⟩
  have c := b.root p1 hs (by omega) (by omega)
  have h2 := len_bl M
  rcases c.2 with h | h
  · rw [h, show digs (0 : Int).natAbs = [] from digs_zero]; simp
  · omega
theorem tot00 : tot 0 0 = (0, 0, 0) := by unfold tot inR; simp
theorem prec_of {P : Int} (h : precB P = true) : ∃ p : Nat, (p : Int) = P ∧ 2 ≤ p ∧ p ≤ 400 := by
  unfold precB at h
  simp only [Bool.and_eq_true, decide_eq_true_eq] at h
  exact ⟨P.toNat, by omega, by omega, by omega⟩

theorem round_both {s : Bool} {xs : List Nat} {x : Int} (P : Int) (up : Bool) (hk : ok32 xs) (hl : xs.length ≤ 100) : ∃ K F V : Int, (digs K.natAbs).length ≤ 10000 ∧ (∀ (A : Option Addr) (c : Nat) (w : World), Dg w A c xs → T32 w → Calls Tryd.prog 31 #[.agg #[.bool s, .slice A xs.length c, .int .i64 x], .int .i64 P, .bool up] w fun e w' => Ye K F V w e w') ∧ (∀ (A : Option Addr) (c : Nat) (w : World), Dg w A c xs → Calls Tryd.prog 32 #[.agg #[.bool s, .slice A xs.length c, .int .i64 x], .int .i64 P, .bool up] w fun e w' => Ye K F V w e w') := by
  cases hq : dyR s xs x
  · refine ⟨0, 0, 1, d00, fun A c w h hT => ?_, fun A c w h => r5round_w A c s xs x P up w h (by omega) hq⟩
    refine (round_w A c s xs x P up w h (by omega) hq).mono ?_
    rintro e w' ⟨rfl, hb⟩
    exact zero_ye hb
  · cases hp : precB P
    · refine ⟨0, 0, 1, d00, fun A c w h hT => ?_, fun A c w h => r5round_p A c s xs x P up w h (by omega) hq hp⟩
      refine (round_p A c s xs x P up w h (by omega) hq hp).mono ?_
      rintro e w' ⟨rfl, hb⟩
      exact zero_ye hb
    · obtain ⟨p, hP, p2, p4⟩ := prec_of hp
      obtain ⟨m, rfl, rfl, r1⟩ := num_of hk hq
      obtain ⟨M, E, hs⟩ := rd_exists m x r1.1 p up (by omega)
      obtain ⟨⟨K, F, V⟩, ht⟩ : ∃ t, tot M E = t := ⟨_, rfl⟩
      have hu := rd_keptU r1.1 (by omega) hs
      have hlm := rd_lenU (by omega) p4 hs
      refine ⟨K, F, V, (tot_len ht hs.1).1, fun A c w h hT => ?_, fun A c w h => r5round_ A c m x P M E up w h hl r1 hP p2 p4 hu.1 hu.2 ht⟩
      by_cases hc : bl m ≤ p
      · exact tround_s_ A c m x P M E up w h (by omega) r1 hT hP p2 p4 hs hlm ht hc
      · exact tround_b_ A c m x P M E up w h (by omega) r1 hT hP p2 p4 hs hlm ht (by omega)

theorem sqrt_both {s : Bool} {xs : List Nat} {x : Int} (P : Int) (up : Bool) (hk : ok32 xs) (hl : xs.length ≤ 100) : ∃ K F V : Int, (digs K.natAbs).length ≤ 10000 ∧ (∀ (A : Option Addr) (c : Nat) (w : World), Dg w A c xs → T32 w → Calls Tryd.prog 35 #[.agg #[.bool s, .slice A xs.length c, .int .i64 x], .int .i64 P, .bool up] w fun e w' => Ye K F V w e w') ∧ (∀ (A : Option Addr) (c : Nat) (w : World), Dg w A c xs → Calls Tryd.prog 36 #[.agg #[.bool s, .slice A xs.length c, .int .i64 x], .int .i64 P, .bool up] w fun e w' => Ye K F V w e w') := by
  cases hq : dyR s xs x
  · refine ⟨0, 0, 1, d00, fun A c w h hT => ?_, fun A c w h => r5sqrt_w A c s xs x P up w h (by omega) hq⟩
    refine (sqrt_w A c s xs x P up w h (by omega) hq).mono ?_
    rintro e w' ⟨rfl, hb⟩
    exact zero_ye hb
  · cases hp : precB P
    · refine ⟨0, 0, 1, d00, fun A c w h hT => ?_, fun A c w h => r5sqrt_p A c s xs x P up w h (by omega) hq hp⟩
      refine (sqrt_p A c s xs x P up w h (by omega) hq hp).mono ?_
      rintro e w' ⟨rfl, hb⟩
      exact zero_ye hb
    · obtain ⟨p, hP, p2, p4⟩ := prec_of hp
      obtain ⟨m, rfl, rfl, r1⟩ := num_of hk hq
      rcases Int.lt_trichotomy m 0 with m0 | m0 | m0
      · exact ⟨0, 0, 3, d00, fun A c w h hT => sqrt_no A c m x P 0 up w h (by omega) r1 (by omega) (by omega) m0 rfl, fun A c w h => r5sqrt_n A c m x P 0 0 up w h hl r1 hP p2 p4 m0⟩
      · exact ⟨0, 0, 0, d00, fun A c w h hT => tsqrt_z_ A c m x P 0 0 up w h (by omega) r1 hT hP p2 p4 ⟨.inl ⟨rfl, rfl⟩, .inl ⟨by rw [m0, dv_zero], rfl⟩⟩ (by have := d00; omega) tot00 m0, fun A c w h => r5sqrt_z A c m x P 0 0 up w h hl r1 hP p2 p4 m0⟩
      · obtain ⟨M, E, hs⟩ := sqrt_exists (m := m) (x := x) (by omega) (p := p) (by omega) up
        obtain ⟨⟨K, F, V⟩, ht⟩ : ∃ t, tot M E = t := ⟨_, rfl⟩
        have hlm := rs_lenU (by omega) p4 r1 hl hs
        refine ⟨K, F, V, (tot_len ht hs.1).1, fun A c w h hT => tsqrt_b_ A c m x P M E up w h (by omega) r1 hT hP p2 p4 hs hlm ht m0, fun A c w h => ?_⟩
        rcases Int.emod_two_eq (x - max 0 (2 * P + 4 - (blen m.natAbs : Int))) with ho | ho
        · exact r5sqrt_e A c m x P M E up w h hl r1 hP p2 p4 m0 ho hs ht
        · exact r5sqrt_o A c m x P M E up w h hl r1 hP p2 p4 m0 ho hs ht

theorem div_both {s r : Bool} {xs ys : List Nat} {x y : Int} (P : Int) (up : Bool) (hk : ok32 xs) (hk' : ok32 ys) (hl : xs.length ≤ 100) (hl' : ys.length ≤ 100) : ∃ K F V : Int, (digs K.natAbs).length ≤ 10000 ∧ (∀ (A : Option Addr) (c : Nat) (B : Option Addr) (d : Nat) (w : World), Dg w A c xs → Dg w B d ys → T32 w → Calls Tryd.prog 33 #[.agg #[.bool s, .slice A xs.length c, .int .i64 x], .agg #[.bool r, .slice B ys.length d, .int .i64 y], .int .i64 P, .bool up] w fun e w' => Ye K F V w e w') ∧ (∀ (A : Option Addr) (c : Nat) (B : Option Addr) (d : Nat) (w : World), Dg w A c xs → Dg w B d ys → Calls Tryd.prog 34 #[.agg #[.bool s, .slice A xs.length c, .int .i64 x], .agg #[.bool r, .slice B ys.length d, .int .i64 y], .int .i64 P, .bool up] w fun e w' => Ye K F V w e w') := by
  cases hq : (dyR s xs x && dyR r ys y)
  · refine ⟨0, 0, 1, d00, fun A c B d w h h' hT => ?_, fun A c B d w h h' => ?_⟩
    · refine (div_w A B c d s r xs ys x y P up w h h' (by omega) (by omega) hq).mono ?_
      rintro e w' ⟨rfl, hb⟩
      exact zero_ye hb
    · obtain ⟨u, hu⟩ : ∃ p, dyR s xs x = p := ⟨_, rfl⟩
      obtain ⟨v, hv⟩ : ∃ p, dyR r ys y = p := ⟨_, rfl⟩
      rw [hu, hv] at hq
      cases u <;> cases v
      · exact r5div_ff A B c d s r xs ys x y P up w h h' (by omega) (by omega) hu hv
      · exact r5div_ft A B c d s r xs ys x y P up w h h' (by omega) (by omega) hu hv
      · exact r5div_tf A B c d s r xs ys x y P up w h h' (by omega) (by omega) hu hv
      · cases hq
  · have hq2 := hq
    rw [Bool.and_eq_true] at hq2
    cases hp : precB P
    · refine ⟨0, 0, 1, d00, fun A c B d w h h' hT => ?_, fun A c B d w h h' => r5div_p A B c d s r xs ys x y P up w h h' (by omega) (by omega) hq2.1 hq2.2 hp⟩
      refine (div_p A B c d s r xs ys x y P up w h h' (by omega) (by omega) hq hp).mono ?_
      rintro e w' ⟨rfl, hb⟩
      exact zero_ye hb
    · obtain ⟨p, hP, p2, p4⟩ := prec_of hp
      obtain ⟨m, rfl, rfl, r1⟩ := num_of hk hq2.1
      obtain ⟨n, rfl, rfl, r2⟩ := num_of hk' hq2.2
      by_cases n0 : n = 0
      · exact ⟨0, 0, 3, d00, fun A c B d w h h' hT => div_no A B c d m n x y P 0 up w h h' (by omega) (by omega) r1 r2 (by omega) (by omega) n0 rfl, fun A c B d w h h' => r5div_n A B c d m n x y P 0 0 up w h h' hl hl' r1 r2 hP p2 p4 n0⟩
      · by_cases m0 : m = 0
        · exact ⟨0, 0, 0, d00, fun A c B d w h h' hT => tdiv_z_ A B c d m n x y P 0 0 up w h h' (by omega) (by omega) r1 r2 hT hP p2 p4 n0 ⟨.inl ⟨rfl, rfl⟩, .inl ⟨by rw [m0, dv_zero, Rat.div_def, Rat.zero_mul], rfl⟩⟩ (by have := d00; omega) tot00 m0, fun A c B d w h h' => r5div_z A B c d m n x y P 0 0 up w h h' hl hl' r1 r2 hP p2 p4 m0 n0⟩
        · obtain ⟨M, E, hs⟩ := div_exists (m := m) (x := x) (y := y) n0 (p := p) (by omega) up
          obtain ⟨⟨K, F, V⟩, ht⟩ : ∃ t, tot M E = t := ⟨_, rfl⟩
          have hlm := rd_lenU (by omega) p4 hs
          exact ⟨K, F, V, (tot_len ht hs.1).1, fun A c B d w h h' hT => tdiv_b_ A B c d m n x y P M E up w h h' (by omega) (by omega) r1 r2 hT hP p2 p4 n0 hs hlm ht m0, fun A c B d w h h' => r5div_t A B c d m n x y P M E up w h h' hl hl' r1 r2 hP p2 p4 m0 n0 hs ht⟩
end Go.Proofs.YtaciohjobenipaaDoor
end

section
/-
  DyadRounds.
-/
namespace Go.Proofs.YtaciohjobenipaaDoor
open Go.RowKit
set_option linter.unusedSimpArgs false
set_option linter.unusedVariables false
set_option maxHeartbeats 8000000 in
set_option maxRecDepth 100000 in
theorem dyadRounds_any  (Ax : Option Addr) (cx : Nat) (sx : Bool) (xsx : List Nat) (ex : Int) (Ay : Option Addr) (cy : Nat) (sy : Bool) (xsy : List Nat) (ey : Int) (p : Int) (up : Bool) (w : World)  (hx : Dg w Ax cx xsx) (lx : xsx.length ≤ 9223372036854775807) (ex0 : -9223372036854775808 ≤ ex) (ex1 : ex ≤ 9223372036854775807) (hy : Dg w Ay cy xsy) (ly : xsy.length ≤ 9223372036854775807) (ey0 : -9223372036854775808 ≤ ey) (ey1 : ey ≤ 9223372036854775807) (p0 : -9223372036854775808 ≤ p) (p1 : p ≤ 9223372036854775807) (hT : T32 w):
    Calls Tryd.prog 5 #[.agg #[.bool sx, .slice Ax xsx.length cx, .int .i64 ex], .agg #[.bool sy, .slice Ay xsy.length cy, .int .i64 ey], .int .i64 p, .bool up] w fun e w' => e = .returned (.bool true) ∧ Below w.heap.size w w' := by
  obtain ⟨tx, htx⟩ : ∃ t, xsx.take 12 = t := ⟨_, rfl⟩
  have hdx : Dg w Ax cx tx := by rw [← htx]; exact hx.take 12
  have okx := hdx.2.1
  have tlx : tx.length = min xsx.length 12 := by rw [← htx, List.length_take]; omega
  have TCx := Lib.hid hdx.1
  have TMx := Lib.hid (show min (xsx.length : Int) 12 = (tx.length : Int) by omega)
  have LTx := Lib.hid (show tx.length ≤ 10000 by omega)
  obtain ⟨ty, hty⟩ : ∃ t, xsy.take 12 = t := ⟨_, rfl⟩
  have hdy : Dg w Ay cy ty := by rw [← hty]; exact hy.take 12
  have oky := hdy.2.1
  have tly : ty.length = min xsy.length 12 := by rw [← hty, List.length_take]; omega
  have TCy := Lib.hid hdy.1
  have TMy := Lib.hid (show min (xsy.length : Int) 12 = (ty.length : Int) by omega)
  have LTy := Lib.hid (show ty.length ≤ 10000 by omega)
  obtain ⟨K0, F0, V0, ln0, pp0, qq0⟩ := round_both (s := sx) (x := ex) p up okx (by omega : tx.length ≤ 100)
  obtain ⟨K1, F1, V1, ln1, pp1, qq1⟩ := div_both (s := sx) (x := ex) (r := sy) (y := ey) p up okx oky (by omega : tx.length ≤ 100) (by omega : ty.length ≤ 100)
  obtain ⟨K2, F2, V2, ln2, pp2, qq2⟩ := sqrt_both (s := sx) (x := ex) p up okx (by omega : tx.length ≤ 100)
  have DK0 := Lib.hid ln0
  have PP0 := Lib.hid pp0
  have QQ0 := Lib.hid qq0
  have DK1 := Lib.hid ln1
  have PP1 := Lib.hid pp1
  have QQ1 := Lib.hid qq1
  have DK2 := Lib.hid ln2
  have PP2 := Lib.hid pp2
  have QQ2 := Lib.hid qq2
  have HT := Lib.hid hT
  have L0 := Lib.hid (((((live_start w).add hx).add hdx).add hy).add hdy)
  clear hx lx ex0 ex1 htx hdx okx tlx hy ly ey0 ey1 hty hdy oky tly hT ln0 pp0 qq0 ln1 pp1 qq1 ln2 pp2 qq2 p0 p1
  go_enter Tryd.func5, Tryd.ntmps5
  go_wp2_with fail
  obtain ⟨v1, hW, hb, Rx_1, Ry_1⟩ := new2 w (.cells #[.bool sx, .slice Ax xsx.length cx, .int .i64 ex] 26) (.cells #[.bool sy, .slice Ay xsy.length cy, .int .i64 ey] 26)
  rw [← hW]
  have L1 := ls L0 hb
  have Gx := gl0 L0.out
  have Gy := gl1 L0.out
  have Nxy : w.heap.size < w.heap.size + 1 := by omega
  clear hW hb
  refine (dexamples_any _ (t32_live HT.out L1.out)).mono ?_
  rintro e w2 ⟨rfl, hb⟩
  have L2 := ls L1 hb
  have Rx_2 := co Rx_1 hb
  have Ry_2 := co Ry_1 hb
  clear hb 
  obtain ⟨fx0, zx0, fx1, zx1, fx2, zx2, xx⟩ := ly3 Rx_2.out
  go_wp2_with fail
  refine (cut_l (ts := tx) (N := 12) TMx.out TCx.out).mono ?_
  rintro e w3 ⟨rfl, hb⟩
  have L3 := ls L2 hb
  clear fx0 zx0 fx1 zx1 fx2 zx2 xx
  have Rx_3 := co Rx_2 hb
  have Ry_3 := co Ry_2 hb
  clear hb 
  obtain ⟨fy0, zy0, fy1, zy1, fy2, zy2, xy⟩ := ly3 Ry_3.out
  go_wp2_with fail
  obtain ⟨w4, hW, hb, Ra_4⟩ := new1 w3 (.cells #[.bool sx, .slice Ax tx.length cx, .int .i64 ex] 26)
  rw [← hW]
  have L4 := ls L3 hb
  have Rx_4 := co Rx_3 hb
  have Ry_4 := co Ry_3 hb
  have Ga := gl0 L3.out
  have Nxa := nl0 Rx_3.out
  have Nya := nl0 Ry_3.out
  clear hW hb
  clear fy0 zy0 fy1 zy1 fy2 zy2 xy
  refine (cut_l (ts := ty) (N := 12) TMy.out TCy.out).mono ?_
  rintro e w5 ⟨rfl, hb⟩
  have L5 := ls L4 hb
  have Rx_5 := co Rx_4 hb
  have Ry_5 := co Ry_4 hb
  have Ra_5 := co Ra_4 hb
  clear hb 
  obtain ⟨fa0, za0, fa1, za1, fa2, za2, xa⟩ := ly3 Ra_5.out
  go_wp2_with fail
  obtain ⟨w6, hW, hb, Rb_6⟩ := new1 w5 (.cells #[.bool sy, .slice Ay ty.length cy, .int .i64 ey] 26)
  rw [← hW]
  have L6 := ls L5 hb
  have Rx_6 := co Rx_5 hb
  have Ry_6 := co Ry_5 hb
  have Ra_6 := co Ra_5 hb
  have Gb := gl0 L5.out
  have Nxb := nl0 Rx_5.out
  have Nyb := nl0 Ry_5.out
  have Nab := nl0 Ra_5.out
  clear hW hb
  clear fa0 za0 fa1 za1 fa2 za2 xa
  refine (PP0.out _ _ _ (L6.out.get (A := Ax) (c := cx) (xs := tx) (by simp)) (t32_live HT.out L6.out)).mono ?_
  rintro e w7 ⟨A7, c7, rfl, hd, hb⟩
  have L7 := la L6 hb hd
  have Rx_7 := co Rx_6 hb
  have Ry_7 := co Ry_6 hb
  have Ra_7 := co Ra_6 hb
  have Rb_7 := co Rb_6 hb
  clear hb hd
  obtain ⟨fa0, za0, fa1, za1, fa2, za2, xa⟩ := ly3 Ra_7.out
  go_wp2_with fail
  obtain ⟨w8, hW, hb, Rp0_8⟩ := new1 w7 (.cells #[.bool (decide (K0 < 0)), .slice A7 (digs K0.natAbs).length c7, .int .i64 F0] 26)
  rw [← hW]
  have L8 := ls L7 hb
  have Rx_8 := co Rx_7 hb
  have Ry_8 := co Ry_7 hb
  have Ra_8 := co Ra_7 hb
  have Rb_8 := co Rb_7 hb
  have Gp0 := gl0 L7.out
  have Nxp0 := nl0 Rx_7.out
  have Nyp0 := nl0 Ry_7.out
  have Nap0 := nl0 Ra_7.out
  have Nbp0 := nl0 Rb_7.out
  clear hW hb
  clear fa0 za0 fa1 za1 fa2 za2 xa
  refine (QQ0.out _ _ _ (L8.out.get (A := Ax) (c := cx) (xs := tx) (by simp))).mono ?_
  rintro e w9 ⟨A9, c9, rfl, hd, hb⟩
  have L9 := la L8 hb hd
  have Rx_9 := co Rx_8 hb
  have Ry_9 := co Ry_8 hb
  have Ra_9 := co Ra_8 hb
  have Rb_9 := co Rb_8 hb
  have Rp0_9 := co Rp0_8 hb
  clear hb hd
  obtain ⟨fa0, za0, fa1, za1, fa2, za2, xa⟩ := ly3 Ra_9.out
  obtain ⟨fb0, zb0, fb1, zb1, fb2, zb2, xb⟩ := ly3 Rb_9.out
  go_wp2_with fail
  obtain ⟨w10, hW, hb, Rr0_10⟩ := new1 w9 (.cells #[.bool (decide (K0 < 0)), .slice A9 (digs K0.natAbs).length c9, .int .i64 F0] 26)
  rw [← hW]
  have L10 := ls L9 hb
  have Rx_10 := co Rx_9 hb
  have Ry_10 := co Ry_9 hb
  have Ra_10 := co Ra_9 hb
  have Rb_10 := co Rb_9 hb
  have Rp0_10 := co Rp0_9 hb
  have Gr0 := gl0 L9.out
  have Nxr0 := nl0 Rx_9.out
  have Nyr0 := nl0 Ry_9.out
  have Nar0 := nl0 Ra_9.out
  have Nbr0 := nl0 Rb_9.out
  have Np0r0 := nl0 Rp0_9.out
  clear hW hb
  clear fa0 za0 fa1 za1 fa2 za2 xa fb0 zb0 fb1 zb1 fb2 zb2 xb
  refine (PP1.out _ _ _ _ _ (L10.out.get (A := Ax) (c := cx) (xs := tx) (by simp)) (L10.out.get (A := Ay) (c := cy) (xs := ty) (by simp)) (t32_live HT.out L10.out)).mono ?_
  rintro e w11 ⟨A11, c11, rfl, hd, hb⟩
  have L11 := la L10 hb hd
  have Rx_11 := co Rx_10 hb
  have Ry_11 := co Ry_10 hb
  have Ra_11 := co Ra_10 hb
  have Rb_11 := co Rb_10 hb
  have Rp0_11 := co Rp0_10 hb
  have Rr0_11 := co Rr0_10 hb
  clear hb hd
  obtain ⟨fa0, za0, fa1, za1, fa2, za2, xa⟩ := ly3 Ra_11.out
  obtain ⟨fb0, zb0, fb1, zb1, fb2, zb2, xb⟩ := ly3 Rb_11.out
  go_wp2_with fail
  obtain ⟨w12, hW, hb, Rp1_12⟩ := new1 w11 (.cells #[.bool (decide (K1 < 0)), .slice A11 (digs K1.natAbs).length c11, .int .i64 F1] 26)
  rw [← hW]
  have L12 := ls L11 hb
  have Rx_12 := co Rx_11 hb
  have Ry_12 := co Ry_11 hb
  have Ra_12 := co Ra_11 hb
  have Rb_12 := co Rb_11 hb
  have Rp0_12 := co Rp0_11 hb
  have Rr0_12 := co Rr0_11 hb
  have Gp1 := gl0 L11.out
  have Nxp1 := nl0 Rx_11.out
  have Nyp1 := nl0 Ry_11.out
  have Nap1 := nl0 Ra_11.out
  have Nbp1 := nl0 Rb_11.out
  have Np0p1 := nl0 Rp0_11.out
  have Nr0p1 := nl0 Rr0_11.out
  clear hW hb
  clear fa0 za0 fa1 za1 fa2 za2 xa fb0 zb0 fb1 zb1 fb2 zb2 xb
  refine (QQ1.out _ _ _ _ _ (L12.out.get (A := Ax) (c := cx) (xs := tx) (by simp)) (L12.out.get (A := Ay) (c := cy) (xs := ty) (by simp))).mono ?_
  rintro e w13 ⟨A13, c13, rfl, hd, hb⟩
  have L13 := la L12 hb hd
  have Rx_13 := co Rx_12 hb
  have Ry_13 := co Ry_12 hb
  have Ra_13 := co Ra_12 hb
  have Rb_13 := co Rb_12 hb
  have Rp0_13 := co Rp0_12 hb
  have Rr0_13 := co Rr0_12 hb
  have Rp1_13 := co Rp1_12 hb
  clear hb hd
  obtain ⟨fa0, za0, fa1, za1, fa2, za2, xa⟩ := ly3 Ra_13.out
  go_wp2_with fail
  obtain ⟨w14, hW, hb, Rr1_14⟩ := new1 w13 (.cells #[.bool (decide (K1 < 0)), .slice A13 (digs K1.natAbs).length c13, .int .i64 F1] 26)
  rw [← hW]
  have L14 := ls L13 hb
  have Rx_14 := co Rx_13 hb
  have Ry_14 := co Ry_13 hb
  have Ra_14 := co Ra_13 hb
  have Rb_14 := co Rb_13 hb
  have Rp0_14 := co Rp0_13 hb
  have Rr0_14 := co Rr0_13 hb
  have Rp1_14 := co Rp1_13 hb
  have Gr1 := gl0 L13.out
  have Nxr1 := nl0 Rx_13.out
  have Nyr1 := nl0 Ry_13.out
  have Nar1 := nl0 Ra_13.out
  have Nbr1 := nl0 Rb_13.out
  have Np0r1 := nl0 Rp0_13.out
  have Nr0r1 := nl0 Rr0_13.out
  have Np1r1 := nl0 Rp1_13.out
  clear hW hb
  clear fa0 za0 fa1 za1 fa2 za2 xa
  refine (PP2.out _ _ _ (L14.out.get (A := Ax) (c := cx) (xs := tx) (by simp)) (t32_live HT.out L14.out)).mono ?_
  rintro e w15 ⟨A15, c15, rfl, hd, hb⟩
  have L15 := la L14 hb hd
  have Rx_15 := co Rx_14 hb
  have Ry_15 := co Ry_14 hb
  have Ra_15 := co Ra_14 hb
  have Rb_15 := co Rb_14 hb
  have Rp0_15 := co Rp0_14 hb
  have Rr0_15 := co Rr0_14 hb
  have Rp1_15 := co Rp1_14 hb
  have Rr1_15 := co Rr1_14 hb
  clear hb hd
  obtain ⟨fa0, za0, fa1, za1, fa2, za2, xa⟩ := ly3 Ra_15.out
  go_wp2_with fail
  obtain ⟨w16, hW, hb, Rp2_16⟩ := new1 w15 (.cells #[.bool (decide (K2 < 0)), .slice A15 (digs K2.natAbs).length c15, .int .i64 F2] 26)
  rw [← hW]
  have L16 := ls L15 hb
  have Rx_16 := co Rx_15 hb
  have Ry_16 := co Ry_15 hb
  have Ra_16 := co Ra_15 hb
  have Rb_16 := co Rb_15 hb
  have Rp0_16 := co Rp0_15 hb
  have Rr0_16 := co Rr0_15 hb
  have Rp1_16 := co Rp1_15 hb
  have Rr1_16 := co Rr1_15 hb
  have Gp2 := gl0 L15.out
  have Nxp2 := nl0 Rx_15.out
  have Nyp2 := nl0 Ry_15.out
  have Nap2 := nl0 Ra_15.out
  have Nbp2 := nl0 Rb_15.out
  have Np0p2 := nl0 Rp0_15.out
  have Nr0p2 := nl0 Rr0_15.out
  have Np1p2 := nl0 Rp1_15.out
  have Nr1p2 := nl0 Rr1_15.out
  clear hW hb
  clear fa0 za0 fa1 za1 fa2 za2 xa
  refine (QQ2.out _ _ _ (L16.out.get (A := Ax) (c := cx) (xs := tx) (by simp))).mono ?_
  rintro e w17 ⟨A17, c17, rfl, hd, hb⟩
  have L17 := la L16 hb hd
  have Rx_17 := co Rx_16 hb
  have Ry_17 := co Ry_16 hb
  have Ra_17 := co Ra_16 hb
  have Rb_17 := co Rb_16 hb
  have Rp0_17 := co Rp0_16 hb
  have Rr0_17 := co Rr0_16 hb
  have Rp1_17 := co Rp1_16 hb
  have Rr1_17 := co Rr1_16 hb
  have Rp2_17 := co Rp2_16 hb
  clear hb hd
  obtain ⟨fp00, zp00, fp01, zp01, fp02, zp02, xp0⟩ := ly3 Rp0_17.out
  obtain ⟨fr00, zr00, fr01, zr01, fr02, zr02, xr0⟩ := ly3 Rr0_17.out
  go_wp2_with fail
  obtain ⟨w18, hW, hb, Rr2_18⟩ := new1 w17 (.cells #[.bool (decide (K2 < 0)), .slice A17 (digs K2.natAbs).length c17, .int .i64 F2] 26)
  rw [← hW]
  have L18 := ls L17 hb
  have Rx_18 := co Rx_17 hb
  have Ry_18 := co Ry_17 hb
  have Ra_18 := co Ra_17 hb
  have Rb_18 := co Rb_17 hb
  have Rp0_18 := co Rp0_17 hb
  have Rr0_18 := co Rr0_17 hb
  have Rp1_18 := co Rp1_17 hb
  have Rr1_18 := co Rr1_17 hb
  have Rp2_18 := co Rp2_17 hb
  have Gr2 := gl0 L17.out
  have Nxr2 := nl0 Rx_17.out
  have Nyr2 := nl0 Ry_17.out
  have Nar2 := nl0 Ra_17.out
  have Nbr2 := nl0 Rb_17.out
  have Np0r2 := nl0 Rp0_17.out
  have Nr0r2 := nl0 Rr0_17.out
  have Np1r2 := nl0 Rp1_17.out
  have Nr1r2 := nl0 Rr1_17.out
  have Np2r2 := nl0 Rp2_17.out
  clear hW hb
  clear fp00 zp00 fp01 zp01 fp02 zp02 xp0 fr00 zr00 fr01 zr01 fr02 zr02 xr0
  refine (dsame_d (m := K0) (n := K0) (x := F0) (y := F0) (q := true) (L18.out.get (A := A7) (c := c7) (xs := digs K0.natAbs) (by simp)) (L18.out.get (A := A9) (c := c9) (xs := digs K0.natAbs) (by simp)) DK0.out (by simp)).mono ?_
  rintro e w19 ⟨rfl, hb⟩
  have L19 := ls L18 hb
  have Rx_19 := co Rx_18 hb
  have Ry_19 := co Ry_18 hb
  have Ra_19 := co Ra_18 hb
  have Rb_19 := co Rb_18 hb
  have Rp0_19 := co Rp0_18 hb
  have Rr0_19 := co Rr0_18 hb
  have Rp1_19 := co Rp1_18 hb
  have Rr1_19 := co Rr1_18 hb
  have Rp2_19 := co Rp2_18 hb
  have Rr2_19 := co Rr2_18 hb
  clear hb 
  obtain ⟨fp10, zp10, fp11, zp11, fp12, zp12, xp1⟩ := ly3 Rp1_19.out
  obtain ⟨fr10, zr10, fr11, zr11, fr12, zr12, xr1⟩ := ly3 Rr1_19.out
  go_wp2_with fail
  refine (dsame_d (m := K1) (n := K1) (x := F1) (y := F1) (q := true) (L19.out.get (A := A11) (c := c11) (xs := digs K1.natAbs) (by simp)) (L19.out.get (A := A13) (c := c13) (xs := digs K1.natAbs) (by simp)) DK1.out (by simp)).mono ?_
  rintro e w20 ⟨rfl, hb⟩
  have L20 := ls L19 hb
  clear fp10 zp10 fp11 zp11 fp12 zp12 xp1 fr10 zr10 fr11 zr11 fr12 zr12 xr1
  have Rx_20 := co Rx_19 hb
  have Ry_20 := co Ry_19 hb
  have Ra_20 := co Ra_19 hb
  have Rb_20 := co Rb_19 hb
  have Rp0_20 := co Rp0_19 hb
  have Rr0_20 := co Rr0_19 hb
  have Rp1_20 := co Rp1_19 hb
  have Rr1_20 := co Rr1_19 hb
  have Rp2_20 := co Rp2_19 hb
  have Rr2_20 := co Rr2_19 hb
  clear hb 
  obtain ⟨fp20, zp20, fp21, zp21, fp22, zp22, xp2⟩ := ly3 Rp2_20.out
  obtain ⟨fr20, zr20, fr21, zr21, fr22, zr22, xr2⟩ := ly3 Rr2_20.out
  go_wp2_with fail
  refine (dsame_d (m := K2) (n := K2) (x := F2) (y := F2) (q := true) (L20.out.get (A := A15) (c := c15) (xs := digs K2.natAbs) (by simp)) (L20.out.get (A := A17) (c := c17) (xs := digs K2.natAbs) (by simp)) DK2.out (by simp)).mono ?_
  rintro e w21 ⟨rfl, hb⟩
  have L21 := ls L20 hb
  clear fp20 zp20 fp21 zp21 fp22 zp22 xp2 fr20 zr20 fr21 zr21 fr22 zr22 xr2
  have Rx_21 := co Rx_20 hb
  have Ry_21 := co Ry_20 hb
  have Ra_21 := co Ra_20 hb
  have Rb_21 := co Rb_20 hb
  have Rp0_21 := co Rp0_20 hb
  have Rr0_21 := co Rr0_20 hb
  have Rp1_21 := co Rp1_20 hb
  have Rr1_21 := co Rr1_20 hb
  have Rp2_21 := co Rp2_20 hb
  have Rr2_21 := co Rr2_20 hb
  clear hb 
  go_wp2
  go_ret
  exact ⟨rfl, L21.out.1⟩
end Go.Proofs.YtaciohjobenipaaDoor
end

section
/-
  DyadRounds, FOR EVERY ARGUMENT: the law returns true, and each argument reads behind the call as it read ahead of it. THE TIED CARD.
-/
namespace Go.Proofs.YtaciohjobenipaaDoor.dyadRounds
open Go Go.ChangeShapes Go.WideShapes Go.ChangeAt Go.RowKit
set_option linter.unusedVariables false
/-- The door's own heap meets the condition. -/
theorem door_met (os : Os) (args : Array Value) : laidMetH Tryd.prog Rows.dyadRoundsRow.laid ((World.doorLaid Tryd.prog 400 os).forCall (fun _ _ => 0) ⟨#[], args, []⟩).memory :=
  laidMetH_of_parts3 (fuel := 8) (laidMet_of_run' 8 (by kernel_rfl) (by kernel_rfl)) (by kernel_rfl) (by kernel_rfl)
set_option maxRecDepth 100000 in
theorem lifted (os : Os) (started : os.Started) (H : Type) (enc : TypeId × Value → H) :
    ReturnsInHanded {} Tryd.checked os 5 .any (fun w args => (Rows.dyadRoundsSpec.pre enc Tryd.prog Tryd.f5 [] false w args ∧ laidMetH Tryd.prog Rows.dyadRoundsRow.laid w) ∧ sizedMet enc Tryd.prog Tryd.f5 (OpenSpec.ofChange Rows.dyadRoundsSpec) false w args)
      (Rows.dyadRoundsSpec.post enc Tryd.prog Tryd.f5 false true false false) := by
  refine returnsInHanded_of_change_and (C := Tryd.checked) (X := fun w _ => laidMetH Tryd.prog Rows.dyadRoundsRow.laid w) (fun _ _ _ hh h => h.of_heap hh) own started (by kernel_rfl) Tryd.func5
    (ChangeSpec.witness_shaped (enc := enc) (C := Tryd.checked) (os := os) (X := fun w _ => laidMetH Tryd.prog Rows.dyadRoundsRow.laid w) false (World.doorLaid Tryd.prog 400 os) #[.agg #[.bool false, .slice none 0 0, .int .i64 0], .agg #[.bool false, .slice none 0 0, .int .i64 0], .int .i64 0, .bool false] 8 rfl (World.shaped_of_RefB (by kernel_rfl) (by kernel_rfl)) (by kernel_rfl) (by kernel_rfl) (by kernel_rfl) (door_met os _)) ?_
  intro W base args ds gs before hval0 hW _ _ hL _
  rw [MakeChecks.laidMetH_plain _ _ _ (by kernel_rfl)] at hL
  have htab := t32_laid hL
  clear hL
  have hval : ∀ (j : Nat) t v, Tryd.f5.params[j]? = some t → args[j]? = some v → Value.okWide Tryd.prog W .any base t v := hval0
  have hW' := hW
  obtain ⟨p, q, hA0, hV, rfl, hfz, hnd⟩ := hW
  have hA : DataW.TrodAll enc Tryd.prog W 0 (fun _ => true) true Tryd.f5.params.toList args.toList ds p := hA0
  rw [Tryd.params5] at hA hval
  obtain ⟨v0, vs0, d0, ds0, p0, q0, hargs, rfl, rfl, h0, r0⟩ := trodAll_cons hA
  obtain ⟨v1, vs1, d1, ds1, p1, q1, rfl, rfl, rfl, h1, r1⟩ := trodAll_cons r0
  obtain ⟨v2, vs2, d2, ds2, p2, q2, rfl, rfl, rfl, h2, r2⟩ := trodAll_cons r1
  obtain ⟨v3, vs3, d3, ds3, p3, q3, rfl, rfl, rfl, h3, r3⟩ := trodAll_cons r2
  obtain ⟨rfl, rfl, rfl⟩ := trodAll_nil r3
  obtain rfl : args = #[v0, v1, v2, v3] := by cases args; simp_all
  obtain ⟨rfl, rfl⟩ := trodVars_none hV
  obtain ⟨s0, A0, c0, xs0, x0, rfl, g0, l0, x00, x01⟩ := open_d (hval 0 _ _ rfl rfl) h0
  obtain ⟨s1, A1, c1, xs1, x1, rfl, g1, l1, x10, x11⟩ := open_d (hval 1 _ _ rfl rfl) h1
  obtain ⟨a2, rfl, e2, e2', g2⟩ := open_int Tryd.underlying3 (hval 2 _ _ rfl rfl) h2
  obtain ⟨a3, rfl, e3, e3'⟩ := open_bool Tryd.underlying4 (hval 3 _ _ rfl rfl) h3
  clear hA0
  simp only [List.append_nil] at hW'
  refine (dyadRounds_any A0 c0 s0 xs0 x0 A1 c1 s1 xs1 x1 a2 a3 W g0 l0 x00 x01 g1 l1 x10 x11 (i64_lo g2) (i64_hi g2) htab).mono fun e W' ⟨he, hb⟩ => ?_
  subst he
  have hlt := hW'.lt
  refine ⟨_, rfl, law_post (tb := 4) hW' hb rfl rfl Tryd.underlying4 rfl rfl fun sp hsp => ?_⟩
  have hr := trodAll_cons_mk (again (by kernel_rfl) (of_decide_eq_true (by kernel_rfl)) h0 hb (fun x hx => hlt x (by simp [hx])) sp (fun x hx => hsp x (by simp [hx]))) (trodAll_cons_mk (again (by kernel_rfl) (of_decide_eq_true (by kernel_rfl)) h1 hb (fun x hx => hlt x (by simp [hx])) sp (fun x hx => hsp x (by simp [hx]))) (trodAll_cons_mk (again (by kernel_rfl) (of_decide_eq_true (by kernel_rfl)) h2 hb (fun x hx => hlt x (by simp [hx])) sp (fun x hx => hsp x (by simp [hx]))) (trodAll_cons_mk (again (by kernel_rfl) (of_decide_eq_true (by kernel_rfl)) h3 hb (fun x hx => hlt x (by simp [hx])) sp (fun x hx => hsp x (by simp [hx]))) trodAll_mk0)))
  simp only [List.append_nil] at hr
  exact hr
theorem row_holds : Rows.DyadRoundsSaid :=
  OpenClaim.holds_of_wide 5 Tryd.f5 rfl rfl rfl rfl rfl rfl rfl ⟨rfl, rfl, rfl, rfl, rfl⟩ rfl rfl rfl rfl rfl (by kernel_rfl) Tryd.func5 (by kernel_rfl)
    (of_decide_eq_true (by kernel_rfl)) (by unfold Func.isWrapper; first | (rw [if_pos (by decide +kernel)]; kernel_rfl) | (rw [if_neg (by decide +kernel)]; exact ⟨rfl, rfl⟩))
    (fun os started H enc _ => lifted os started H enc)
/-- THE TIED CARD. -/
theorem proved : Rows.DyadRoundsCardSaid :=
  Claim7.holds_tied_plain_at .later [] [.data] true (true, "a0ee95ec608e429a44ba4d6df51e3df1264843540f127cf759ae64bd4c51b811") false
    row_holds (fun _ h => by cases h) (by kernel_rfl) (fun _ h => by cases h) dyadRounds_row_tie rfl ⟨rfl, rfl⟩ (by kernel_rfl) rfl
    (fun f fn hf hfn => by
      obtain rfl : f = 5 := Option.some.inj ((show Tryd.prog.funcNamed Rows.dyadRoundsRow.func = some 5 by kernel_rfl).symm.trans hf) |>.symm
      obtain rfl : fn = Tryd.f5 := (Option.some.inj (Tryd.func5.symm.trans hfn)).symm
      exact ⟨by kernel_rfl, fun j t ht => by
        have hall : (Tryd.f5.params.toList.all fun u => !Tryd.prog.wantsStandIn u) = true := by kernel_rfl
        exact (show Tryd.prog.wantsStandIn t = false by simpa using List.all_eq_true.1 hall t (Array.mem_toList_iff.2 (Array.mem_of_getElem? ht)))⟩)
    (by kernel_rfl)
end Go.Proofs.YtaciohjobenipaaDoor.dyadRounds
end
