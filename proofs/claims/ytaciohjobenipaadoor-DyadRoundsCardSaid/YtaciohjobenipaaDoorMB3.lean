import Derived.Test.YtaciohjobenipaaDoorMB2
import Derived.Test.YtaciohjobenipaaDoorMB1
import Derived.Test.YtaciohjobenipaaDoorMB0
section
/-
  dyad.cut.
-/
namespace Go.Proofs.YtaciohjobenipaaDoor
open Go.RowKit
set_option linter.unusedSimpArgs false
set_option linter.unusedVariables false
theorem dg_one {w : World} {g : Nat} {T : TypeId} (h : w.heap[g]? = some (.cells #[.int .u32 1] T (0, 0))) : Dg w (some ⟨g, 0, none⟩) 1 [1] :=
  ⟨Nat.le_refl _, by intro x hx; simp at hx; omega, fun _ => ⟨g, 0, rfl, heap_lt h, fun j hj => by
    have : j = 0 := by simp at hj; omega
    subst this
    exact row_c h rfl⟩⟩
theorem nadd1 {A : Option Addr} {c k g : Nat} {T : TypeId} {w : World} (h : Dg w A c (digs k)) (hl : (digs k).length ≤ 1000000) (hR : w.heap[g]? = some (.cells #[.int .u32 1] T (0, 0))) :
    Calls Tryd.prog 100 #[.slice A (digs k).length c, .slice (some ⟨g, 0, none⟩) 1 1] w fun e w' => ∃ A' c', e = .returned (.slice A' (digs (k + 1)).length c') ∧ Dg w' A' c' (digs (k + 1)) ∧ Below w.heap.size w w' := by
  have := add_any A (some ⟨g, 0, none⟩) c 1 (digs k) [1] w h (dg_one hR) (by omega) (by simp)
  rw [val_digs, show val [1] = 1 from rfl] at this
  exact this
theorem shr_i {A : Option Addr} {c q d : Nat} {i : Int} {w : World} (h : Dg w A c (digs q)) (hl : (digs q).length ≤ 1000000) (hi : i = (d : Int)) (hd : d ≤ 100000000) :
    Calls Tryd.prog 79 #[.slice A (digs q).length c, .int .i64 i] w fun e w' => ∃ A' c', e = .returned (.slice A' (digs (q / 2 ^ d)).length c') ∧ Dg w' A' c' (digs (q / 2 ^ d)) ∧ Below w.heap.size w w' := by
  subst hi
  have := shr_any A c (digs q) d w h (by omega) (by omega)
  rw [val_digs] at this
  exact this
theorem zeros_i {A : Option Addr} {c q : Nat} {t : Int} {w : World} (h : Dg w A c (digs q)) (hl : (digs q).length ≤ 1000000) (h0 : q ≠ 0) (hT : T32 w) (ht : ((tz q : Nat) : Int) = t) :
    Calls Tryd.prog 78 #[.slice A (digs q).length c] w fun e w' => e = .returned (.int .i64 t) ∧ w = w' := by
  have := zeros_any A c (digs q) w h (by rw [val_digs]; exact h0) hl hT
  rw [val_digs, ht] at this
  exact this
theorem tz_low {q d : Nat} (h : q ≠ 0) : decide (tz q < d) = decide (q % 2 ^ d ≠ 0) := by
  rw [decide_eq_decide]
  have ⟨a, b⟩ := tz_spec q h
  constructor
  · intro hlt h0
    have hd : 2 ^ d ∣ q := Nat.dvd_of_mod_eq_zero h0
    have h1 : 2 ^ (tz q + 1) ∣ q := Nat.dvd_trans (Nat.pow_dvd_pow 2 hlt) hd
    obtain ⟨v, hv⟩ := h1
    have key : ∀ (u t v n : Nat), n = u * 2 ^ t → n = 2 ^ (t + 1) * v → u % 2 = 0 := by
      intro u t v n h1 h2
      have h3 : u * 2 ^ t = (2 * v) * 2 ^ t := by rw [← h1, h2, Nat.pow_succ]; grind
      have := Nat.eq_of_mul_eq_mul_right (Nat.pow_pos (by omega)) h3
      omega
    have := key _ _ _ _ b hv
    omega
  · intro h1
    rcases Nat.lt_or_ge (tz q) d with h2 | h2
    · exact h2
    · exfalso; apply h1
      exact Nat.mod_eq_zero_of_dvd (Nat.dvd_trans (Nat.pow_dvd_pow 2 h2) ⟨q / 2 ^ tz q, by rw [Nat.mul_comm]; exact b⟩)

set_option maxHeartbeats 4000000 in
set_option maxRecDepth 100000 in
theorem cut_nna_t (A : Option Addr) (c : Nat) (q : Nat) (y P : Int) (p : Nat) (M E : Int) (w : World) (h : Dg w A c (digs q)) (hl : (digs q).length ≤ 30000) (hT : T32 w) (hP : (p : Int) = P) (p2 : 2 ≤ p) (p4 : p ≤ 400) (hb : p ≤ blen q) (y0 : -900000 ≤ y) (y1 : y ≤ 900000) (hM : nm (sg false (q / 2 ^ (blen q - p))) = M) (hE : nx (sg false (q / 2 ^ (blen q - p))) (y + (blen q - p : Nat)) = E) (hlow : decide (q % 2 ^ (blen q - p) ≠ 0) = false):
    Calls Tryd.prog 68 #[.agg #[.bool false, .slice A (digs q).length c, .int .i64 y], .bool false, .int .i64 P, .bool true] w fun e w' => Yr M E w e w' := by
  have q0 : q ≠ 0 := by rintro rfl; rw [blen_zero] at hb; omega
  have b1 : blen q ≤ 960000 := by have := bl_bd (m := (q : Int)) (k := 30000) (by rw [Int.natAbs_natCast]; exact hl); rwa [Int.natAbs_natCast] at this
  obtain ⟨z, hz⟩ : ∃ z : Int, (blen q : Int) = z := ⟨_, rfl⟩
  obtain ⟨d, hd⟩ : ∃ d : Nat, blen q - p = d := ⟨_, rfl⟩
  rw [hd] at hM hE hlow
  have hzd : z - P = (d : Int) := by omega
  have htl := tz_low (q := q) (d := d) q0
  rw [hlow] at htl
  obtain ⟨t, ht⟩ : ∃ t : Int, ((tz q : Nat) : Int) = t := ⟨_, rfl⟩
  have d1 : decide (t < z - P) = false := by rw [← htl, decide_eq_decide]; omega
  have HTZ := Lib.hid ht
  have z0 : 0 ≤ z := by omega
  have z1 : z ≤ 960000 := by omega
  have pp0 : 2 ≤ P := by omega
  have pp1 : P ≤ 400 := by omega
  have zp0 : 0 ≤ z - P := by omega
  have HZ := Lib.hid hz
  have HZD := Lib.hid hzd
  have LX := Lib.hid hl
  have Q0 := Lib.hid q0
  have hlk := digs_len_mono _ _ (Nat.div_le_self q (2 ^ d))
  have hdk : d ≤ 960000 := by omega
  have hlk1 := digs_add_len (q / 2 ^ d) 1
  have l1 : (digs 1).length = 1 := by rw [digs_one (by omega) (by omega)]; rfl
  have LK1 := Lib.hid (show (digs (q / 2 ^ d + 1)).length ≤ 30001 by omega)
  have LK := Lib.hid (show (digs (q / 2 ^ d)).length ≤ 30000 by omega)
  obtain ⟨k, hk⟩ : ∃ k, q / 2 ^ d = k := ⟨_, rfl⟩
  rw [hk] at hM hE LK LK1
  have HK := Lib.hid hk
  have HM := Lib.hid hM
  have HE := Lib.hid (show nx (sg false (k)) (y + (z - P)) = E by rw [hzd]; exact hE)
  have SHR := Lib.hid (fun W (hW : Dg W A c (digs q)) => shr_i (i := z - P) hW (by omega) hzd (by omega))
  rw [hk] at SHR
  have HT := Lib.hid hT
  clear hT
  have L0 := Lib.hid ((live_start w).add h)
  clear h hl hP hb hz hd hzd q0 hM hE hlk hlk1 l1 hk b1 hlow htl ht
  go_enter Tryd.func68, Tryd.ntmps68
  go_wp2_with fail
  obtain ⟨v1, hW, hb, Rx_1, Rr_1⟩ := new2 w (.cells #[.bool false, .slice A (digs q).length c, .int .i64 y] 26) (.cells #[.bool false, .slice none 0 0, .int .i64 0] 26)
  rw [← hW]
  have L1 := ls L0 hb
  have Gx := gl0 L0.out
  have Gr := gl1 L0.out
  have Nxr : w.heap.size < w.heap.size + 1 := by omega
  clear hW hb
  refine (bits_b (L1.out.get (A := A) (c := c) (xs := digs q) (by simp)) (Nat.le_trans LX.out (by omega)) HZ.out).mono ?_
  rintro e w2 ⟨rfl, rfl⟩
  obtain ⟨fx0, zx0, fx1, zx1, fx2, zx2, xx⟩ := ly3 Rx_1.out
  go_wp2_with fail
  refine (SHR.out _ (L1.out.get (A := A) (c := c) (xs := digs q) (by simp))).mono ?_
  rintro e w3 ⟨A3, c3, rfl, hd, hb⟩
  have L3 := la L1 hb hd
  clear fx0 zx0 fx1 zx1 fx2 zx2 xx
  have Rx_3 := co Rx_1 hb
  have Rr_3 := co Rr_1 hb
  clear hb hd
  obtain ⟨fx0, zx0, fx1, zx1, fx2, zx2, xx⟩ := ly3 Rx_3.out
  go_wp2_with fail
  refine (zeros_i (L3.out.get (A := A) (c := c) (xs := digs q) (by simp)) (Nat.le_trans LX.out (by omega)) Q0.out (t32_live HT.out L3.out) HTZ.out).mono ?_
  rintro e w4 ⟨rfl, rfl⟩
  clear fx0 zx0 fx1 zx1 fx2 zx2 xx
  obtain ⟨fx0, zx0, fx1, zx1, fx2, zx2, xx⟩ := ly3 Rx_3.out
  clear fx0 zx0 fx1 zx1 fx2 zx2 xx
  obtain ⟨fx0, zx0, fx1, zx1, fx2, zx2, xx⟩ := ly3 Rx_3.out
  go_wp2_with fail
  refine (odd_any A3 c3 false k (y + (z - P)) M E _ (L3.out.get (A := A3) (c := c3) (xs := digs k) (by simp)) (Nat.le_trans LK.out (by omega)) (t32_live HT.out L3.out) ⟨by omega, by omega⟩ HM.out HE.out).mono ?_
  rintro e w5 ⟨A5, c5, rfl, hd, hb⟩
  have L5 := la L3 hb hd
  clear fx0 zx0 fx1 zx1 fx2 zx2 xx
  have Rx_5 := co Rx_3 hb
  have Rr_5 := co Rr_3 hb
  clear hb hd
  obtain ⟨fr0, zr0, fr1, zr1, fr2, zr2, xr⟩ := ly3 Rr_5.out
  go_wp2
  refine bodyPost_ret (v := .agg #[.bool (decide (M < 0)), .slice A5 (digs M.natAbs).length c5, .int .i64 E]) (by simp [results, Tryd.results68, go_sem, fr0, fr1, fr2]) rfl ?_
  
  refine ⟨A5, c5, rfl, ?_, ?_⟩
  · exact (fin3 L5.out Rr_5.out noint3 Gr).get (A := A5) (c := c5) (xs := digs M.natAbs) (by simp)
  · exact (fin3 L5.out Rr_5.out noint3 Gr).1

set_option maxHeartbeats 4000000 in
set_option maxRecDepth 100000 in
theorem cut_nna_f (A : Option Addr) (c : Nat) (q : Nat) (y P : Int) (p : Nat) (M E : Int) (w : World) (h : Dg w A c (digs q)) (hl : (digs q).length ≤ 30000) (hT : T32 w) (hP : (p : Int) = P) (p2 : 2 ≤ p) (p4 : p ≤ 400) (hb : p ≤ blen q) (y0 : -900000 ≤ y) (y1 : y ≤ 900000) (hM : nm (sg true (q / 2 ^ (blen q - p))) = M) (hE : nx (sg true (q / 2 ^ (blen q - p))) (y + (blen q - p : Nat)) = E) (hlow : decide (q % 2 ^ (blen q - p) ≠ 0) = false):
    Calls Tryd.prog 68 #[.agg #[.bool true, .slice A (digs q).length c, .int .i64 y], .bool false, .int .i64 P, .bool false] w fun e w' => Yr M E w e w' := by
  have q0 : q ≠ 0 := by rintro rfl; rw [blen_zero] at hb; omega
  have b1 : blen q ≤ 960000 := by have := bl_bd (m := (q : Int)) (k := 30000) (by rw [Int.natAbs_natCast]; exact hl); rwa [Int.natAbs_natCast] at this
  obtain ⟨z, hz⟩ : ∃ z : Int, (blen q : Int) = z := ⟨_, rfl⟩
  obtain ⟨d, hd⟩ : ∃ d : Nat, blen q - p = d := ⟨_, rfl⟩
  rw [hd] at hM hE hlow
  have hzd : z - P = (d : Int) := by omega
  have htl := tz_low (q := q) (d := d) q0
  rw [hlow] at htl
  obtain ⟨t, ht⟩ : ∃ t : Int, ((tz q : Nat) : Int) = t := ⟨_, rfl⟩
  have d1 : decide (t < z - P) = false := by rw [← htl, decide_eq_decide]; omega
  have HTZ := Lib.hid ht
  have z0 : 0 ≤ z := by omega
  have z1 : z ≤ 960000 := by omega
  have pp0 : 2 ≤ P := by omega
  have pp1 : P ≤ 400 := by omega
  have zp0 : 0 ≤ z - P := by omega
  have HZ := Lib.hid hz
  have HZD := Lib.hid hzd
  have LX := Lib.hid hl
  have Q0 := Lib.hid q0
  have hlk := digs_len_mono _ _ (Nat.div_le_self q (2 ^ d))
  have hdk : d ≤ 960000 := by omega
  have hlk1 := digs_add_len (q / 2 ^ d) 1
  have l1 : (digs 1).length = 1 := by rw [digs_one (by omega) (by omega)]; rfl
  have LK1 := Lib.hid (show (digs (q / 2 ^ d + 1)).length ≤ 30001 by omega)
  have LK := Lib.hid (show (digs (q / 2 ^ d)).length ≤ 30000 by omega)
  obtain ⟨k, hk⟩ : ∃ k, q / 2 ^ d = k := ⟨_, rfl⟩
  rw [hk] at hM hE LK LK1
  have HK := Lib.hid hk
  have HM := Lib.hid hM
  have HE := Lib.hid (show nx (sg true (k)) (y + (z - P)) = E by rw [hzd]; exact hE)
  have SHR := Lib.hid (fun W (hW : Dg W A c (digs q)) => shr_i (i := z - P) hW (by omega) hzd (by omega))
  rw [hk] at SHR
  have HT := Lib.hid hT
  clear hT
  have L0 := Lib.hid ((live_start w).add h)
  clear h hl hP hb hz hd hzd q0 hM hE hlk hlk1 l1 hk b1 hlow htl ht
  go_enter Tryd.func68, Tryd.ntmps68
  go_wp2_with fail
  obtain ⟨v1, hW, hb, Rx_1, Rr_1⟩ := new2 w (.cells #[.bool true, .slice A (digs q).length c, .int .i64 y] 26) (.cells #[.bool false, .slice none 0 0, .int .i64 0] 26)
  rw [← hW]
  have L1 := ls L0 hb
  have Gx := gl0 L0.out
  have Gr := gl1 L0.out
  have Nxr : w.heap.size < w.heap.size + 1 := by omega
  clear hW hb
  refine (bits_b (L1.out.get (A := A) (c := c) (xs := digs q) (by simp)) (Nat.le_trans LX.out (by omega)) HZ.out).mono ?_
  rintro e w2 ⟨rfl, rfl⟩
  obtain ⟨fx0, zx0, fx1, zx1, fx2, zx2, xx⟩ := ly3 Rx_1.out
  go_wp2_with fail
  refine (SHR.out _ (L1.out.get (A := A) (c := c) (xs := digs q) (by simp))).mono ?_
  rintro e w3 ⟨A3, c3, rfl, hd, hb⟩
  have L3 := la L1 hb hd
  clear fx0 zx0 fx1 zx1 fx2 zx2 xx
  have Rx_3 := co Rx_1 hb
  have Rr_3 := co Rr_1 hb
  clear hb hd
  obtain ⟨fx0, zx0, fx1, zx1, fx2, zx2, xx⟩ := ly3 Rx_3.out
  go_wp2_with fail
  refine (zeros_i (L3.out.get (A := A) (c := c) (xs := digs q) (by simp)) (Nat.le_trans LX.out (by omega)) Q0.out (t32_live HT.out L3.out) HTZ.out).mono ?_
  rintro e w4 ⟨rfl, rfl⟩
  clear fx0 zx0 fx1 zx1 fx2 zx2 xx
  obtain ⟨fx0, zx0, fx1, zx1, fx2, zx2, xx⟩ := ly3 Rx_3.out
  clear fx0 zx0 fx1 zx1 fx2 zx2 xx
  obtain ⟨fx0, zx0, fx1, zx1, fx2, zx2, xx⟩ := ly3 Rx_3.out
  go_wp2_with fail
  refine (odd_any A3 c3 true k (y + (z - P)) M E _ (L3.out.get (A := A3) (c := c3) (xs := digs k) (by simp)) (Nat.le_trans LK.out (by omega)) (t32_live HT.out L3.out) ⟨by omega, by omega⟩ HM.out HE.out).mono ?_
  rintro e w5 ⟨A5, c5, rfl, hd, hb⟩
  have L5 := la L3 hb hd
  clear fx0 zx0 fx1 zx1 fx2 zx2 xx
  have Rx_5 := co Rx_3 hb
  have Rr_5 := co Rr_3 hb
  clear hb hd
  obtain ⟨fr0, zr0, fr1, zr1, fr2, zr2, xr⟩ := ly3 Rr_5.out
  go_wp2
  refine bodyPost_ret (v := .agg #[.bool (decide (M < 0)), .slice A5 (digs M.natAbs).length c5, .int .i64 E]) (by simp [results, Tryd.results68, go_sem, fr0, fr1, fr2]) rfl ?_
  
  refine ⟨A5, c5, rfl, ?_, ?_⟩
  · exact (fin3 L5.out Rr_5.out noint3 Gr).get (A := A5) (c := c5) (xs := digs M.natAbs) (by simp)
  · exact (fin3 L5.out Rr_5.out noint3 Gr).1

set_option maxHeartbeats 4000000 in
set_option maxRecDepth 100000 in
theorem cut_nnf_t (A : Option Addr) (c : Nat) (q : Nat) (y P : Int) (p : Nat) (M E : Int) (w : World) (h : Dg w A c (digs q)) (hl : (digs q).length ≤ 30000) (hT : T32 w) (hP : (p : Int) = P) (p2 : 2 ≤ p) (p4 : p ≤ 400) (hb : p ≤ blen q) (y0 : -900000 ≤ y) (y1 : y ≤ 900000) (hM : nm (sg true (q / 2 ^ (blen q - p))) = M) (hE : nx (sg true (q / 2 ^ (blen q - p))) (y + (blen q - p : Nat)) = E) (hlow : decide (q % 2 ^ (blen q - p) ≠ 0) = false):
    Calls Tryd.prog 68 #[.agg #[.bool true, .slice A (digs q).length c, .int .i64 y], .bool false, .int .i64 P, .bool true] w fun e w' => Yr M E w e w' := by
  have q0 : q ≠ 0 := by rintro rfl; rw [blen_zero] at hb; omega
  have b1 : blen q ≤ 960000 := by have := bl_bd (m := (q : Int)) (k := 30000) (by rw [Int.natAbs_natCast]; exact hl); rwa [Int.natAbs_natCast] at this
  obtain ⟨z, hz⟩ : ∃ z : Int, (blen q : Int) = z := ⟨_, rfl⟩
  obtain ⟨d, hd⟩ : ∃ d : Nat, blen q - p = d := ⟨_, rfl⟩
  rw [hd] at hM hE hlow
  have hzd : z - P = (d : Int) := by omega
  have htl := tz_low (q := q) (d := d) q0
  rw [hlow] at htl
  obtain ⟨t, ht⟩ : ∃ t : Int, ((tz q : Nat) : Int) = t := ⟨_, rfl⟩
  have d1 : decide (t < z - P) = false := by rw [← htl, decide_eq_decide]; omega
  have HTZ := Lib.hid ht
  have z0 : 0 ≤ z := by omega
  have z1 : z ≤ 960000 := by omega
  have pp0 : 2 ≤ P := by omega
  have pp1 : P ≤ 400 := by omega
  have zp0 : 0 ≤ z - P := by omega
  have HZ := Lib.hid hz
  have HZD := Lib.hid hzd
  have LX := Lib.hid hl
  have Q0 := Lib.hid q0
  have hlk := digs_len_mono _ _ (Nat.div_le_self q (2 ^ d))
  have hdk : d ≤ 960000 := by omega
  have hlk1 := digs_add_len (q / 2 ^ d) 1
  have l1 : (digs 1).length = 1 := by rw [digs_one (by omega) (by omega)]; rfl
  have LK1 := Lib.hid (show (digs (q / 2 ^ d + 1)).length ≤ 30001 by omega)
  have LK := Lib.hid (show (digs (q / 2 ^ d)).length ≤ 30000 by omega)
  obtain ⟨k, hk⟩ : ∃ k, q / 2 ^ d = k := ⟨_, rfl⟩
  rw [hk] at hM hE LK LK1
  have HK := Lib.hid hk
  have HM := Lib.hid hM
  have HE := Lib.hid (show nx (sg true (k)) (y + (z - P)) = E by rw [hzd]; exact hE)
  have SHR := Lib.hid (fun W (hW : Dg W A c (digs q)) => shr_i (i := z - P) hW (by omega) hzd (by omega))
  rw [hk] at SHR
  have HT := Lib.hid hT
  clear hT
  have L0 := Lib.hid ((live_start w).add h)
  clear h hl hP hb hz hd hzd q0 hM hE hlk hlk1 l1 hk b1 hlow htl ht
  go_enter Tryd.func68, Tryd.ntmps68
  go_wp2_with fail
  obtain ⟨v1, hW, hb, Rx_1, Rr_1⟩ := new2 w (.cells #[.bool true, .slice A (digs q).length c, .int .i64 y] 26) (.cells #[.bool false, .slice none 0 0, .int .i64 0] 26)
  rw [← hW]
  have L1 := ls L0 hb
  have Gx := gl0 L0.out
  have Gr := gl1 L0.out
  have Nxr : w.heap.size < w.heap.size + 1 := by omega
  clear hW hb
  refine (bits_b (L1.out.get (A := A) (c := c) (xs := digs q) (by simp)) (Nat.le_trans LX.out (by omega)) HZ.out).mono ?_
  rintro e w2 ⟨rfl, rfl⟩
  obtain ⟨fx0, zx0, fx1, zx1, fx2, zx2, xx⟩ := ly3 Rx_1.out
  go_wp2_with fail
  refine (SHR.out _ (L1.out.get (A := A) (c := c) (xs := digs q) (by simp))).mono ?_
  rintro e w3 ⟨A3, c3, rfl, hd, hb⟩
  have L3 := la L1 hb hd
  clear fx0 zx0 fx1 zx1 fx2 zx2 xx
  have Rx_3 := co Rx_1 hb
  have Rr_3 := co Rr_1 hb
  clear hb hd
  obtain ⟨fx0, zx0, fx1, zx1, fx2, zx2, xx⟩ := ly3 Rx_3.out
  go_wp2_with fail
  refine (zeros_i (L3.out.get (A := A) (c := c) (xs := digs q) (by simp)) (Nat.le_trans LX.out (by omega)) Q0.out (t32_live HT.out L3.out) HTZ.out).mono ?_
  rintro e w4 ⟨rfl, rfl⟩
  clear fx0 zx0 fx1 zx1 fx2 zx2 xx
  obtain ⟨fx0, zx0, fx1, zx1, fx2, zx2, xx⟩ := ly3 Rx_3.out
  clear fx0 zx0 fx1 zx1 fx2 zx2 xx
  obtain ⟨fx0, zx0, fx1, zx1, fx2, zx2, xx⟩ := ly3 Rx_3.out
  go_wp2_with fail
  refine (odd_any A3 c3 true k (y + (z - P)) M E _ (L3.out.get (A := A3) (c := c3) (xs := digs k) (by simp)) (Nat.le_trans LK.out (by omega)) (t32_live HT.out L3.out) ⟨by omega, by omega⟩ HM.out HE.out).mono ?_
  rintro e w5 ⟨A5, c5, rfl, hd, hb⟩
  have L5 := la L3 hb hd
  clear fx0 zx0 fx1 zx1 fx2 zx2 xx
  have Rx_5 := co Rx_3 hb
  have Rr_5 := co Rr_3 hb
  clear hb hd
  obtain ⟨fr0, zr0, fr1, zr1, fr2, zr2, xr⟩ := ly3 Rr_5.out
  go_wp2
  refine bodyPost_ret (v := .agg #[.bool (decide (M < 0)), .slice A5 (digs M.natAbs).length c5, .int .i64 E]) (by simp [results, Tryd.results68, go_sem, fr0, fr1, fr2]) rfl ?_
  
  refine ⟨A5, c5, rfl, ?_, ?_⟩
  · exact (fin3 L5.out Rr_5.out noint3 Gr).get (A := A5) (c := c5) (xs := digs M.natAbs) (by simp)
  · exact (fin3 L5.out Rr_5.out noint3 Gr).1

set_option maxHeartbeats 4000000 in
set_option maxRecDepth 100000 in
theorem cut_nnf_f (A : Option Addr) (c : Nat) (q : Nat) (y P : Int) (p : Nat) (M E : Int) (w : World) (h : Dg w A c (digs q)) (hl : (digs q).length ≤ 30000) (hT : T32 w) (hP : (p : Int) = P) (p2 : 2 ≤ p) (p4 : p ≤ 400) (hb : p ≤ blen q) (y0 : -900000 ≤ y) (y1 : y ≤ 900000) (hM : nm (sg false (q / 2 ^ (blen q - p))) = M) (hE : nx (sg false (q / 2 ^ (blen q - p))) (y + (blen q - p : Nat)) = E) (hlow : decide (q % 2 ^ (blen q - p) ≠ 0) = false):
    Calls Tryd.prog 68 #[.agg #[.bool false, .slice A (digs q).length c, .int .i64 y], .bool false, .int .i64 P, .bool false] w fun e w' => Yr M E w e w' := by
  have q0 : q ≠ 0 := by rintro rfl; rw [blen_zero] at hb; omega
  have b1 : blen q ≤ 960000 := by have := bl_bd (m := (q : Int)) (k := 30000) (by rw [Int.natAbs_natCast]; exact hl); rwa [Int.natAbs_natCast] at this
  obtain ⟨z, hz⟩ : ∃ z : Int, (blen q : Int) = z := ⟨_, rfl⟩
  obtain ⟨d, hd⟩ : ∃ d : Nat, blen q - p = d := ⟨_, rfl⟩
  rw [hd] at hM hE hlow
  have hzd : z - P = (d : Int) := by omega
  have htl := tz_low (q := q) (d := d) q0
  rw [hlow] at htl
  obtain ⟨t, ht⟩ : ∃ t : Int, ((tz q : Nat) : Int) = t := ⟨_, rfl⟩
  have d1 : decide (t < z - P) = false := by rw [← htl, decide_eq_decide]; omega
  have HTZ := Lib.hid ht
  have z0 : 0 ≤ z := by omega
  have z1 : z ≤ 960000 := by omega
  have pp0 : 2 ≤ P := by omega
  have pp1 : P ≤ 400 := by omega
  have zp0 : 0 ≤ z - P := by omega
  have HZ := Lib.hid hz
  have HZD := Lib.hid hzd
  have LX := Lib.hid hl
  have Q0 := Lib.hid q0
  have hlk := digs_len_mono _ _ (Nat.div_le_self q (2 ^ d))
  have hdk : d ≤ 960000 := by omega
  have hlk1 := digs_add_len (q / 2 ^ d) 1
  have l1 : (digs 1).length = 1 := by rw [digs_one (by omega) (by omega)]; rfl
  have LK1 := Lib.hid (show (digs (q / 2 ^ d + 1)).length ≤ 30001 by omega)
  have LK := Lib.hid (show (digs (q / 2 ^ d)).length ≤ 30000 by omega)
  obtain ⟨k, hk⟩ : ∃ k, q / 2 ^ d = k := ⟨_, rfl⟩
  rw [hk] at hM hE LK LK1
  have HK := Lib.hid hk
  have HM := Lib.hid hM
  have HE := Lib.hid (show nx (sg false (k)) (y + (z - P)) = E by rw [hzd]; exact hE)
  have SHR := Lib.hid (fun W (hW : Dg W A c (digs q)) => shr_i (i := z - P) hW (by omega) hzd (by omega))
  rw [hk] at SHR
  have HT := Lib.hid hT
  clear hT
  have L0 := Lib.hid ((live_start w).add h)
  clear h hl hP hb hz hd hzd q0 hM hE hlk hlk1 l1 hk b1 hlow htl ht
  go_enter Tryd.func68, Tryd.ntmps68
  go_wp2_with fail
  obtain ⟨v1, hW, hb, Rx_1, Rr_1⟩ := new2 w (.cells #[.bool false, .slice A (digs q).length c, .int .i64 y] 26) (.cells #[.bool false, .slice none 0 0, .int .i64 0] 26)
  rw [← hW]
  have L1 := ls L0 hb
  have Gx := gl0 L0.out
  have Gr := gl1 L0.out
  have Nxr : w.heap.size < w.heap.size + 1 := by omega
  clear hW hb
  refine (bits_b (L1.out.get (A := A) (c := c) (xs := digs q) (by simp)) (Nat.le_trans LX.out (by omega)) HZ.out).mono ?_
  rintro e w2 ⟨rfl, rfl⟩
  obtain ⟨fx0, zx0, fx1, zx1, fx2, zx2, xx⟩ := ly3 Rx_1.out
  go_wp2_with fail
  refine (SHR.out _ (L1.out.get (A := A) (c := c) (xs := digs q) (by simp))).mono ?_
  rintro e w3 ⟨A3, c3, rfl, hd, hb⟩
  have L3 := la L1 hb hd
  clear fx0 zx0 fx1 zx1 fx2 zx2 xx
  have Rx_3 := co Rx_1 hb
  have Rr_3 := co Rr_1 hb
  clear hb hd
  obtain ⟨fx0, zx0, fx1, zx1, fx2, zx2, xx⟩ := ly3 Rx_3.out
  go_wp2_with fail
  refine (zeros_i (L3.out.get (A := A) (c := c) (xs := digs q) (by simp)) (Nat.le_trans LX.out (by omega)) Q0.out (t32_live HT.out L3.out) HTZ.out).mono ?_
  rintro e w4 ⟨rfl, rfl⟩
  clear fx0 zx0 fx1 zx1 fx2 zx2 xx
  obtain ⟨fx0, zx0, fx1, zx1, fx2, zx2, xx⟩ := ly3 Rx_3.out
  clear fx0 zx0 fx1 zx1 fx2 zx2 xx
  obtain ⟨fx0, zx0, fx1, zx1, fx2, zx2, xx⟩ := ly3 Rx_3.out
  go_wp2_with fail
  refine (odd_any A3 c3 false k (y + (z - P)) M E _ (L3.out.get (A := A3) (c := c3) (xs := digs k) (by simp)) (Nat.le_trans LK.out (by omega)) (t32_live HT.out L3.out) ⟨by omega, by omega⟩ HM.out HE.out).mono ?_
  rintro e w5 ⟨A5, c5, rfl, hd, hb⟩
  have L5 := la L3 hb hd
  clear fx0 zx0 fx1 zx1 fx2 zx2 xx
  have Rx_5 := co Rx_3 hb
  have Rr_5 := co Rr_3 hb
  clear hb hd
  obtain ⟨fr0, zr0, fr1, zr1, fr2, zr2, xr⟩ := ly3 Rr_5.out
  go_wp2
  refine bodyPost_ret (v := .agg #[.bool (decide (M < 0)), .slice A5 (digs M.natAbs).length c5, .int .i64 E]) (by simp [results, Tryd.results68, go_sem, fr0, fr1, fr2]) rfl ?_
  
  refine ⟨A5, c5, rfl, ?_, ?_⟩
  · exact (fin3 L5.out Rr_5.out noint3 Gr).get (A := A5) (c := c5) (xs := digs M.natAbs) (by simp)
  · exact (fin3 L5.out Rr_5.out noint3 Gr).1

set_option maxHeartbeats 4000000 in
set_option maxRecDepth 100000 in
theorem cut_nla_t (A : Option Addr) (c : Nat) (q : Nat) (y P : Int) (p : Nat) (M E : Int) (w : World) (h : Dg w A c (digs q)) (hl : (digs q).length ≤ 30000) (hT : T32 w) (hP : (p : Int) = P) (p2 : 2 ≤ p) (p4 : p ≤ 400) (hb : p ≤ blen q) (y0 : -900000 ≤ y) (y1 : y ≤ 900000) (hM : nm (sg false (q / 2 ^ (blen q - p) + 1)) = M) (hE : nx (sg false (q / 2 ^ (blen q - p) + 1)) (y + (blen q - p : Nat)) = E) (hlow : decide (q % 2 ^ (blen q - p) ≠ 0) = true):
    Calls Tryd.prog 68 #[.agg #[.bool false, .slice A (digs q).length c, .int .i64 y], .bool false, .int .i64 P, .bool true] w fun e w' => Yr M E w e w' := by
  have q0 : q ≠ 0 := by rintro rfl; rw [blen_zero] at hb; omega
  have b1 : blen q ≤ 960000 := by have := bl_bd (m := (q : Int)) (k := 30000) (by rw [Int.natAbs_natCast]; exact hl); rwa [Int.natAbs_natCast] at this
  obtain ⟨z, hz⟩ : ∃ z : Int, (blen q : Int) = z := ⟨_, rfl⟩
  obtain ⟨d, hd⟩ : ∃ d : Nat, blen q - p = d := ⟨_, rfl⟩
  rw [hd] at hM hE hlow
  have hzd : z - P = (d : Int) := by omega
  have htl := tz_low (q := q) (d := d) q0
  rw [hlow] at htl
  obtain ⟨t, ht⟩ : ∃ t : Int, ((tz q : Nat) : Int) = t := ⟨_, rfl⟩
  have d1 : decide (t < z - P) = true := by rw [← htl, decide_eq_decide]; omega
  have HTZ := Lib.hid ht
  have z0 : 0 ≤ z := by omega
  have z1 : z ≤ 960000 := by omega
  have pp0 : 2 ≤ P := by omega
  have pp1 : P ≤ 400 := by omega
  have zp0 : 0 ≤ z - P := by omega
  have HZ := Lib.hid hz
  have HZD := Lib.hid hzd
  have LX := Lib.hid hl
  have Q0 := Lib.hid q0
  have hlk := digs_len_mono _ _ (Nat.div_le_self q (2 ^ d))
  have hdk : d ≤ 960000 := by omega
  have hlk1 := digs_add_len (q / 2 ^ d) 1
  have l1 : (digs 1).length = 1 := by rw [digs_one (by omega) (by omega)]; rfl
  have LK1 := Lib.hid (show (digs (q / 2 ^ d + 1)).length ≤ 30001 by omega)
  have LK := Lib.hid (show (digs (q / 2 ^ d)).length ≤ 30000 by omega)
  obtain ⟨k, hk⟩ : ∃ k, q / 2 ^ d = k := ⟨_, rfl⟩
  rw [hk] at hM hE LK LK1
  have HK := Lib.hid hk
  have HM := Lib.hid hM
  have HE := Lib.hid (show nx (sg false (k + 1)) (y + (z - P)) = E by rw [hzd]; exact hE)
  have SHR := Lib.hid (fun W (hW : Dg W A c (digs q)) => shr_i (i := z - P) hW (by omega) hzd (by omega))
  rw [hk] at SHR
  have HT := Lib.hid hT
  clear hT
  have L0 := Lib.hid ((live_start w).add h)
  clear h hl hP hb hz hd hzd q0 hM hE hlk hlk1 l1 hk b1 hlow htl ht
  go_enter Tryd.func68, Tryd.ntmps68
  go_wp2_with fail
  obtain ⟨v1, hW, hb, Rx_1, Rr_1⟩ := new2 w (.cells #[.bool false, .slice A (digs q).length c, .int .i64 y] 26) (.cells #[.bool false, .slice none 0 0, .int .i64 0] 26)
  rw [← hW]
  have L1 := ls L0 hb
  have Gx := gl0 L0.out
  have Gr := gl1 L0.out
  have Nxr : w.heap.size < w.heap.size + 1 := by omega
  clear hW hb
  refine (bits_b (L1.out.get (A := A) (c := c) (xs := digs q) (by simp)) (Nat.le_trans LX.out (by omega)) HZ.out).mono ?_
  rintro e w2 ⟨rfl, rfl⟩
  obtain ⟨fx0, zx0, fx1, zx1, fx2, zx2, xx⟩ := ly3 Rx_1.out
  go_wp2_with fail
  refine (SHR.out _ (L1.out.get (A := A) (c := c) (xs := digs q) (by simp))).mono ?_
  rintro e w3 ⟨A3, c3, rfl, hd, hb⟩
  have L3 := la L1 hb hd
  clear fx0 zx0 fx1 zx1 fx2 zx2 xx
  have Rx_3 := co Rx_1 hb
  have Rr_3 := co Rr_1 hb
  clear hb hd
  obtain ⟨fx0, zx0, fx1, zx1, fx2, zx2, xx⟩ := ly3 Rx_3.out
  go_wp2_with fail
  refine (zeros_i (L3.out.get (A := A) (c := c) (xs := digs q) (by simp)) (Nat.le_trans LX.out (by omega)) Q0.out (t32_live HT.out L3.out) HTZ.out).mono ?_
  rintro e w4 ⟨rfl, rfl⟩
  clear fx0 zx0 fx1 zx1 fx2 zx2 xx
  obtain ⟨fx0, zx0, fx1, zx1, fx2, zx2, xx⟩ := ly3 Rx_3.out
  go_wp2_with fail
  obtain ⟨w5, hW, hb, Rone_5⟩ := new1 w3 (.cells #[.int .u32 1] 52)
  rw [← hW]
  have L5 := ls L3 hb
  have Rx_5 := co Rx_3 hb
  have Rr_5 := co Rr_3 hb
  have Gone := gl0 L3.out
  have Nxone := nl0 Rx_3.out
  have Nrone := nl0 Rr_3.out
  clear hW hb
  clear fx0 zx0 fx1 zx1 fx2 zx2 xx
  refine (nadd1 (L5.out.get (A := A3) (c := c3) (xs := digs k) (by simp)) (Nat.le_trans LK.out (by omega)) Rone_5.out).mono ?_
  rintro e w6 ⟨A6, c6, rfl, hd, hb⟩
  have L6 := la L5 hb hd
  have Rx_6 := co Rx_5 hb
  have Rr_6 := co Rr_5 hb
  have Rone_6 := co Rone_5 hb
  clear hb hd
  obtain ⟨fx0, zx0, fx1, zx1, fx2, zx2, xx⟩ := ly3 Rx_6.out
  clear fx0 zx0 fx1 zx1 fx2 zx2 xx
  obtain ⟨fx0, zx0, fx1, zx1, fx2, zx2, xx⟩ := ly3 Rx_6.out
  go_wp2_with fail
  refine (odd_any A6 c6 false (k + 1) (y + (z - P)) M E _ (L6.out.get (A := A6) (c := c6) (xs := digs (k + 1)) (by simp)) (Nat.le_trans LK1.out (by omega)) (t32_live HT.out L6.out) ⟨by omega, by omega⟩ HM.out HE.out).mono ?_
  rintro e w7 ⟨A7, c7, rfl, hd, hb⟩
  have L7 := la L6 hb hd
  clear fx0 zx0 fx1 zx1 fx2 zx2 xx
  have Rx_7 := co Rx_6 hb
  have Rr_7 := co Rr_6 hb
  have Rone_7 := co Rone_6 hb
  clear hb hd
  obtain ⟨fr0, zr0, fr1, zr1, fr2, zr2, xr⟩ := ly3 Rr_7.out
  go_wp2
  refine bodyPost_ret (v := .agg #[.bool (decide (M < 0)), .slice A7 (digs M.natAbs).length c7, .int .i64 E]) (by simp [results, Tryd.results68, go_sem, fr0, fr1, fr2]) rfl ?_
  
  refine ⟨A7, c7, rfl, ?_, ?_⟩
  · exact (fin3 L7.out Rr_7.out noint3 Gr).get (A := A7) (c := c7) (xs := digs M.natAbs) (by simp)
  · exact (fin3 L7.out Rr_7.out noint3 Gr).1

set_option maxHeartbeats 4000000 in
set_option maxRecDepth 100000 in
theorem cut_nla_f (A : Option Addr) (c : Nat) (q : Nat) (y P : Int) (p : Nat) (M E : Int) (w : World) (h : Dg w A c (digs q)) (hl : (digs q).length ≤ 30000) (hT : T32 w) (hP : (p : Int) = P) (p2 : 2 ≤ p) (p4 : p ≤ 400) (hb : p ≤ blen q) (y0 : -900000 ≤ y) (y1 : y ≤ 900000) (hM : nm (sg true (q / 2 ^ (blen q - p) + 1)) = M) (hE : nx (sg true (q / 2 ^ (blen q - p) + 1)) (y + (blen q - p : Nat)) = E) (hlow : decide (q % 2 ^ (blen q - p) ≠ 0) = true):
    Calls Tryd.prog 68 #[.agg #[.bool true, .slice A (digs q).length c, .int .i64 y], .bool false, .int .i64 P, .bool false] w fun e w' => Yr M E w e w' := by
  have q0 : q ≠ 0 := by rintro rfl; rw [blen_zero] at hb; omega
  have b1 : blen q ≤ 960000 := by have := bl_bd (m := (q : Int)) (k := 30000) (by rw [Int.natAbs_natCast]; exact hl); rwa [Int.natAbs_natCast] at this
  obtain ⟨z, hz⟩ : ∃ z : Int, (blen q : Int) = z := ⟨_, rfl⟩
  obtain ⟨d, hd⟩ : ∃ d : Nat, blen q - p = d := ⟨_, rfl⟩
  rw [hd] at hM hE hlow
  have hzd : z - P = (d : Int) := by omega
  have htl := tz_low (q := q) (d := d) q0
  rw [hlow] at htl
  obtain ⟨t, ht⟩ : ∃ t : Int, ((tz q : Nat) : Int) = t := ⟨_, rfl⟩
  have d1 : decide (t < z - P) = true := by rw [← htl, decide_eq_decide]; omega
  have HTZ := Lib.hid ht
  have z0 : 0 ≤ z := by omega
  have z1 : z ≤ 960000 := by omega
  have pp0 : 2 ≤ P := by omega
  have pp1 : P ≤ 400 := by omega
  have zp0 : 0 ≤ z - P := by omega
  have HZ := Lib.hid hz
  have HZD := Lib.hid hzd
  have LX := Lib.hid hl
  have Q0 := Lib.hid q0
  have hlk := digs_len_mono _ _ (Nat.div_le_self q (2 ^ d))
  have hdk : d ≤ 960000 := by omega
  have hlk1 := digs_add_len (q / 2 ^ d) 1
  have l1 : (digs 1).length = 1 := by rw [digs_one (by omega) (by omega)]; rfl
  have LK1 := Lib.hid (show (digs (q / 2 ^ d + 1)).length ≤ 30001 by omega)
  have LK := Lib.hid (show (digs (q / 2 ^ d)).length ≤ 30000 by omega)
  obtain ⟨k, hk⟩ : ∃ k, q / 2 ^ d = k := ⟨_, rfl⟩
  rw [hk] at hM hE LK LK1
  have HK := Lib.hid hk
  have HM := Lib.hid hM
  have HE := Lib.hid (show nx (sg true (k + 1)) (y + (z - P)) = E by rw [hzd]; exact hE)
  have SHR := Lib.hid (fun W (hW : Dg W A c (digs q)) => shr_i (i := z - P) hW (by omega) hzd (by omega))
  rw [hk] at SHR
  have HT := Lib.hid hT
  clear hT
  have L0 := Lib.hid ((live_start w).add h)
  clear h hl hP hb hz hd hzd q0 hM hE hlk hlk1 l1 hk b1 hlow htl ht
  go_enter Tryd.func68, Tryd.ntmps68
  go_wp2_with fail
  obtain ⟨v1, hW, hb, Rx_1, Rr_1⟩ := new2 w (.cells #[.bool true, .slice A (digs q).length c, .int .i64 y] 26) (.cells #[.bool false, .slice none 0 0, .int .i64 0] 26)
  rw [← hW]
  have L1 := ls L0 hb
  have Gx := gl0 L0.out
  have Gr := gl1 L0.out
  have Nxr : w.heap.size < w.heap.size + 1 := by omega
  clear hW hb
  refine (bits_b (L1.out.get (A := A) (c := c) (xs := digs q) (by simp)) (Nat.le_trans LX.out (by omega)) HZ.out).mono ?_
  rintro e w2 ⟨rfl, rfl⟩
  obtain ⟨fx0, zx0, fx1, zx1, fx2, zx2, xx⟩ := ly3 Rx_1.out
  go_wp2_with fail
  refine (SHR.out _ (L1.out.get (A := A) (c := c) (xs := digs q) (by simp))).mono ?_
  rintro e w3 ⟨A3, c3, rfl, hd, hb⟩
  have L3 := la L1 hb hd
  clear fx0 zx0 fx1 zx1 fx2 zx2 xx
  have Rx_3 := co Rx_1 hb
  have Rr_3 := co Rr_1 hb
  clear hb hd
  obtain ⟨fx0, zx0, fx1, zx1, fx2, zx2, xx⟩ := ly3 Rx_3.out
  go_wp2_with fail
  refine (zeros_i (L3.out.get (A := A) (c := c) (xs := digs q) (by simp)) (Nat.le_trans LX.out (by omega)) Q0.out (t32_live HT.out L3.out) HTZ.out).mono ?_
  rintro e w4 ⟨rfl, rfl⟩
  clear fx0 zx0 fx1 zx1 fx2 zx2 xx
  obtain ⟨fx0, zx0, fx1, zx1, fx2, zx2, xx⟩ := ly3 Rx_3.out
  go_wp2_with fail
  obtain ⟨w5, hW, hb, Rone_5⟩ := new1 w3 (.cells #[.int .u32 1] 52)
  rw [← hW]
  have L5 := ls L3 hb
  have Rx_5 := co Rx_3 hb
  have Rr_5 := co Rr_3 hb
  have Gone := gl0 L3.out
  have Nxone := nl0 Rx_3.out
  have Nrone := nl0 Rr_3.out
  clear hW hb
  clear fx0 zx0 fx1 zx1 fx2 zx2 xx
  refine (nadd1 (L5.out.get (A := A3) (c := c3) (xs := digs k) (by simp)) (Nat.le_trans LK.out (by omega)) Rone_5.out).mono ?_
  rintro e w6 ⟨A6, c6, rfl, hd, hb⟩
  have L6 := la L5 hb hd
  have Rx_6 := co Rx_5 hb
  have Rr_6 := co Rr_5 hb
  have Rone_6 := co Rone_5 hb
  clear hb hd
  obtain ⟨fx0, zx0, fx1, zx1, fx2, zx2, xx⟩ := ly3 Rx_6.out
  clear fx0 zx0 fx1 zx1 fx2 zx2 xx
  obtain ⟨fx0, zx0, fx1, zx1, fx2, zx2, xx⟩ := ly3 Rx_6.out
  go_wp2_with fail
  refine (odd_any A6 c6 true (k + 1) (y + (z - P)) M E _ (L6.out.get (A := A6) (c := c6) (xs := digs (k + 1)) (by simp)) (Nat.le_trans LK1.out (by omega)) (t32_live HT.out L6.out) ⟨by omega, by omega⟩ HM.out HE.out).mono ?_
  rintro e w7 ⟨A7, c7, rfl, hd, hb⟩
  have L7 := la L6 hb hd
  clear fx0 zx0 fx1 zx1 fx2 zx2 xx
  have Rx_7 := co Rx_6 hb
  have Rr_7 := co Rr_6 hb
  have Rone_7 := co Rone_6 hb
  clear hb hd
  obtain ⟨fr0, zr0, fr1, zr1, fr2, zr2, xr⟩ := ly3 Rr_7.out
  go_wp2
  refine bodyPost_ret (v := .agg #[.bool (decide (M < 0)), .slice A7 (digs M.natAbs).length c7, .int .i64 E]) (by simp [results, Tryd.results68, go_sem, fr0, fr1, fr2]) rfl ?_
  
  refine ⟨A7, c7, rfl, ?_, ?_⟩
  · exact (fin3 L7.out Rr_7.out noint3 Gr).get (A := A7) (c := c7) (xs := digs M.natAbs) (by simp)
  · exact (fin3 L7.out Rr_7.out noint3 Gr).1
end Go.Proofs.YtaciohjobenipaaDoor
end

section
/-
  dyad.cut, whole.
-/
namespace Go.Proofs.YtaciohjobenipaaDoor
open Go.RowKit
set_option linter.unusedSimpArgs false
set_option linter.unusedVariables false
set_option maxHeartbeats 4000000 in
set_option maxRecDepth 100000 in
theorem cut_nlf_t (A : Option Addr) (c : Nat) (q : Nat) (y P : Int) (p : Nat) (M E : Int) (w : World) (h : Dg w A c (digs q)) (hl : (digs q).length ≤ 30000) (hT : T32 w) (hP : (p : Int) = P) (p2 : 2 ≤ p) (p4 : p ≤ 400) (hb : p ≤ blen q) (y0 : -900000 ≤ y) (y1 : y ≤ 900000) (hM : nm (sg true (q / 2 ^ (blen q - p))) = M) (hE : nx (sg true (q / 2 ^ (blen q - p))) (y + (blen q - p : Nat)) = E) (hlow : decide (q % 2 ^ (blen q - p) ≠ 0) = true):
    Calls Tryd.prog 68 #[.agg #[.bool true, .slice A (digs q).length c, .int .i64 y], .bool false, .int .i64 P, .bool true] w fun e w' => Yr M E w e w' := by
  have q0 : q ≠ 0 := by rintro rfl; rw [blen_zero] at hb; omega
  have b1 : blen q ≤ 960000 := by have := bl_bd (m := (q : Int)) (k := 30000) (by rw [Int.natAbs_natCast]; exact hl); rwa [Int.natAbs_natCast] at this
  obtain ⟨z, hz⟩ : ∃ z : Int, (blen q : Int) = z := ⟨_, rfl⟩
  obtain ⟨d, hd⟩ : ∃ d : Nat, blen q - p = d := ⟨_, rfl⟩
  rw [hd] at hM hE hlow
  have hzd : z - P = (d : Int) := by omega
  have htl := tz_low (q := q) (d := d) q0
  rw [hlow] at htl
  obtain ⟨t, ht⟩ : ∃ t : Int, ((tz q : Nat) : Int) = t := ⟨_, rfl⟩
  have d1 : decide (t < z - P) = true := by rw [← htl, decide_eq_decide]; omega
  have HTZ := Lib.hid ht
  have z0 : 0 ≤ z := by omega
  have z1 : z ≤ 960000 := by omega
  have pp0 : 2 ≤ P := by omega
  have pp1 : P ≤ 400 := by omega
  have zp0 : 0 ≤ z - P := by omega
  have HZ := Lib.hid hz
  have HZD := Lib.hid hzd
  have LX := Lib.hid hl
  have Q0 := Lib.hid q0
  have hlk := digs_len_mono _ _ (Nat.div_le_self q (2 ^ d))
  have hdk : d ≤ 960000 := by omega
  have hlk1 := digs_add_len (q / 2 ^ d) 1
  have l1 : (digs 1).length = 1 := by rw [digs_one (by omega) (by omega)]; rfl
  have LK1 := Lib.hid (show (digs (q / 2 ^ d + 1)).length ≤ 30001 by omega)
  have LK := Lib.hid (show (digs (q / 2 ^ d)).length ≤ 30000 by omega)
  obtain ⟨k, hk⟩ : ∃ k, q / 2 ^ d = k := ⟨_, rfl⟩
  rw [hk] at hM hE LK LK1
  have HK := Lib.hid hk
  have HM := Lib.hid hM
  have HE := Lib.hid (show nx (sg true (k)) (y + (z - P)) = E by rw [hzd]; exact hE)
  have SHR := Lib.hid (fun W (hW : Dg W A c (digs q)) => shr_i (i := z - P) hW (by omega) hzd (by omega))
  rw [hk] at SHR
  have HT := Lib.hid hT
  clear hT
  have L0 := Lib.hid ((live_start w).add h)
  clear h hl hP hb hz hd hzd q0 hM hE hlk hlk1 l1 hk b1 hlow htl ht
  go_enter Tryd.func68, Tryd.ntmps68
  go_wp2_with fail
  obtain ⟨v1, hW, hb, Rx_1, Rr_1⟩ := new2 w (.cells #[.bool true, .slice A (digs q).length c, .int .i64 y] 26) (.cells #[.bool false, .slice none 0 0, .int .i64 0] 26)
  rw [← hW]
  have L1 := ls L0 hb
  have Gx := gl0 L0.out
  have Gr := gl1 L0.out
  have Nxr : w.heap.size < w.heap.size + 1 := by omega
  clear hW hb
  refine (bits_b (L1.out.get (A := A) (c := c) (xs := digs q) (by simp)) (Nat.le_trans LX.out (by omega)) HZ.out).mono ?_
  rintro e w2 ⟨rfl, rfl⟩
  obtain ⟨fx0, zx0, fx1, zx1, fx2, zx2, xx⟩ := ly3 Rx_1.out
  go_wp2_with fail
  refine (SHR.out _ (L1.out.get (A := A) (c := c) (xs := digs q) (by simp))).mono ?_
  rintro e w3 ⟨A3, c3, rfl, hd, hb⟩
  have L3 := la L1 hb hd
  clear fx0 zx0 fx1 zx1 fx2 zx2 xx
  have Rx_3 := co Rx_1 hb
  have Rr_3 := co Rr_1 hb
  clear hb hd
  obtain ⟨fx0, zx0, fx1, zx1, fx2, zx2, xx⟩ := ly3 Rx_3.out
  go_wp2_with fail
  refine (zeros_i (L3.out.get (A := A) (c := c) (xs := digs q) (by simp)) (Nat.le_trans LX.out (by omega)) Q0.out (t32_live HT.out L3.out) HTZ.out).mono ?_
  rintro e w4 ⟨rfl, rfl⟩
  clear fx0 zx0 fx1 zx1 fx2 zx2 xx
  obtain ⟨fx0, zx0, fx1, zx1, fx2, zx2, xx⟩ := ly3 Rx_3.out
  clear fx0 zx0 fx1 zx1 fx2 zx2 xx
  obtain ⟨fx0, zx0, fx1, zx1, fx2, zx2, xx⟩ := ly3 Rx_3.out
  go_wp2_with fail
  refine (odd_any A3 c3 true k (y + (z - P)) M E _ (L3.out.get (A := A3) (c := c3) (xs := digs k) (by simp)) (Nat.le_trans LK.out (by omega)) (t32_live HT.out L3.out) ⟨by omega, by omega⟩ HM.out HE.out).mono ?_
  rintro e w5 ⟨A5, c5, rfl, hd, hb⟩
  have L5 := la L3 hb hd
  clear fx0 zx0 fx1 zx1 fx2 zx2 xx
  have Rx_5 := co Rx_3 hb
  have Rr_5 := co Rr_3 hb
  clear hb hd
  obtain ⟨fr0, zr0, fr1, zr1, fr2, zr2, xr⟩ := ly3 Rr_5.out
  go_wp2
  refine bodyPost_ret (v := .agg #[.bool (decide (M < 0)), .slice A5 (digs M.natAbs).length c5, .int .i64 E]) (by simp [results, Tryd.results68, go_sem, fr0, fr1, fr2]) rfl ?_
  
  refine ⟨A5, c5, rfl, ?_, ?_⟩
  · exact (fin3 L5.out Rr_5.out noint3 Gr).get (A := A5) (c := c5) (xs := digs M.natAbs) (by simp)
  · exact (fin3 L5.out Rr_5.out noint3 Gr).1

set_option maxHeartbeats 4000000 in
set_option maxRecDepth 100000 in
theorem cut_nlf_f (A : Option Addr) (c : Nat) (q : Nat) (y P : Int) (p : Nat) (M E : Int) (w : World) (h : Dg w A c (digs q)) (hl : (digs q).length ≤ 30000) (hT : T32 w) (hP : (p : Int) = P) (p2 : 2 ≤ p) (p4 : p ≤ 400) (hb : p ≤ blen q) (y0 : -900000 ≤ y) (y1 : y ≤ 900000) (hM : nm (sg false (q / 2 ^ (blen q - p))) = M) (hE : nx (sg false (q / 2 ^ (blen q - p))) (y + (blen q - p : Nat)) = E) (hlow : decide (q % 2 ^ (blen q - p) ≠ 0) = true):
    Calls Tryd.prog 68 #[.agg #[.bool false, .slice A (digs q).length c, .int .i64 y], .bool false, .int .i64 P, .bool false] w fun e w' => Yr M E w e w' := by
  have q0 : q ≠ 0 := by rintro rfl; rw [blen_zero] at hb; omega
  have b1 : blen q ≤ 960000 := by have := bl_bd (m := (q : Int)) (k := 30000) (by rw [Int.natAbs_natCast]; exact hl); rwa [Int.natAbs_natCast] at this
  obtain ⟨z, hz⟩ : ∃ z : Int, (blen q : Int) = z := ⟨_, rfl⟩
  obtain ⟨d, hd⟩ : ∃ d : Nat, blen q - p = d := ⟨_, rfl⟩
  rw [hd] at hM hE hlow
  have hzd : z - P = (d : Int) := by omega
  have htl := tz_low (q := q) (d := d) q0
  rw [hlow] at htl
  obtain ⟨t, ht⟩ : ∃ t : Int, ((tz q : Nat) : Int) = t := ⟨_, rfl⟩
  have d1 : decide (t < z - P) = true := by rw [← htl, decide_eq_decide]; omega
  have HTZ := Lib.hid ht
  have z0 : 0 ≤ z := by omega
  have z1 : z ≤ 960000 := by omega
  have pp0 : 2 ≤ P := by omega
  have pp1 : P ≤ 400 := by omega
  have zp0 : 0 ≤ z - P := by omega
  have HZ := Lib.hid hz
  have HZD := Lib.hid hzd
  have LX := Lib.hid hl
  have Q0 := Lib.hid q0
  have hlk := digs_len_mono _ _ (Nat.div_le_self q (2 ^ d))
  have hdk : d ≤ 960000 := by omega
  have hlk1 := digs_add_len (q / 2 ^ d) 1
  have l1 : (digs 1).length = 1 := by rw [digs_one (by omega) (by omega)]; rfl
  have LK1 := Lib.hid (show (digs (q / 2 ^ d + 1)).length ≤ 30001 by omega)
  have LK := Lib.hid (show (digs (q / 2 ^ d)).length ≤ 30000 by omega)
  obtain ⟨k, hk⟩ : ∃ k, q / 2 ^ d = k := ⟨_, rfl⟩
  rw [hk] at hM hE LK LK1
  have HK := Lib.hid hk
  have HM := Lib.hid hM
  have HE := Lib.hid (show nx (sg false (k)) (y + (z - P)) = E by rw [hzd]; exact hE)
  have SHR := Lib.hid (fun W (hW : Dg W A c (digs q)) => shr_i (i := z - P) hW (by omega) hzd (by omega))
  rw [hk] at SHR
  have HT := Lib.hid hT
  clear hT
  have L0 := Lib.hid ((live_start w).add h)
  clear h hl hP hb hz hd hzd q0 hM hE hlk hlk1 l1 hk b1 hlow htl ht
  go_enter Tryd.func68, Tryd.ntmps68
  go_wp2_with fail
  obtain ⟨v1, hW, hb, Rx_1, Rr_1⟩ := new2 w (.cells #[.bool false, .slice A (digs q).length c, .int .i64 y] 26) (.cells #[.bool false, .slice none 0 0, .int .i64 0] 26)
  rw [← hW]
  have L1 := ls L0 hb
  have Gx := gl0 L0.out
  have Gr := gl1 L0.out
  have Nxr : w.heap.size < w.heap.size + 1 := by omega
  clear hW hb
  refine (bits_b (L1.out.get (A := A) (c := c) (xs := digs q) (by simp)) (Nat.le_trans LX.out (by omega)) HZ.out).mono ?_
  rintro e w2 ⟨rfl, rfl⟩
  obtain ⟨fx0, zx0, fx1, zx1, fx2, zx2, xx⟩ := ly3 Rx_1.out
  go_wp2_with fail
  refine (SHR.out _ (L1.out.get (A := A) (c := c) (xs := digs q) (by simp))).mono ?_
  rintro e w3 ⟨A3, c3, rfl, hd, hb⟩
  have L3 := la L1 hb hd
  clear fx0 zx0 fx1 zx1 fx2 zx2 xx
  have Rx_3 := co Rx_1 hb
  have Rr_3 := co Rr_1 hb
  clear hb hd
  obtain ⟨fx0, zx0, fx1, zx1, fx2, zx2, xx⟩ := ly3 Rx_3.out
  go_wp2_with fail
  refine (zeros_i (L3.out.get (A := A) (c := c) (xs := digs q) (by simp)) (Nat.le_trans LX.out (by omega)) Q0.out (t32_live HT.out L3.out) HTZ.out).mono ?_
  rintro e w4 ⟨rfl, rfl⟩
  clear fx0 zx0 fx1 zx1 fx2 zx2 xx
  obtain ⟨fx0, zx0, fx1, zx1, fx2, zx2, xx⟩ := ly3 Rx_3.out
  clear fx0 zx0 fx1 zx1 fx2 zx2 xx
  obtain ⟨fx0, zx0, fx1, zx1, fx2, zx2, xx⟩ := ly3 Rx_3.out
  go_wp2_with fail
  refine (odd_any A3 c3 false k (y + (z - P)) M E _ (L3.out.get (A := A3) (c := c3) (xs := digs k) (by simp)) (Nat.le_trans LK.out (by omega)) (t32_live HT.out L3.out) ⟨by omega, by omega⟩ HM.out HE.out).mono ?_
  rintro e w5 ⟨A5, c5, rfl, hd, hb⟩
  have L5 := la L3 hb hd
  clear fx0 zx0 fx1 zx1 fx2 zx2 xx
  have Rx_5 := co Rx_3 hb
  have Rr_5 := co Rr_3 hb
  clear hb hd
  obtain ⟨fr0, zr0, fr1, zr1, fr2, zr2, xr⟩ := ly3 Rr_5.out
  go_wp2
  refine bodyPost_ret (v := .agg #[.bool (decide (M < 0)), .slice A5 (digs M.natAbs).length c5, .int .i64 E]) (by simp [results, Tryd.results68, go_sem, fr0, fr1, fr2]) rfl ?_
  
  refine ⟨A5, c5, rfl, ?_, ?_⟩
  · exact (fin3 L5.out Rr_5.out noint3 Gr).get (A := A5) (c := c5) (xs := digs M.natAbs) (by simp)
  · exact (fin3 L5.out Rr_5.out noint3 Gr).1

set_option maxHeartbeats 4000000 in
set_option maxRecDepth 100000 in
theorem cut_mla_t (A : Option Addr) (c : Nat) (q : Nat) (y P : Int) (p : Nat) (M E : Int) (w : World) (h : Dg w A c (digs q)) (hl : (digs q).length ≤ 30000) (hT : T32 w) (hP : (p : Int) = P) (p2 : 2 ≤ p) (p4 : p ≤ 400) (hb : p ≤ blen q) (y0 : -900000 ≤ y) (y1 : y ≤ 900000) (hM : nm (sg false (q / 2 ^ (blen q - p) + 1)) = M) (hE : nx (sg false (q / 2 ^ (blen q - p) + 1)) (y + (blen q - p : Nat)) = E):
    Calls Tryd.prog 68 #[.agg #[.bool false, .slice A (digs q).length c, .int .i64 y], .bool true, .int .i64 P, .bool true] w fun e w' => Yr M E w e w' := by
  have q0 : q ≠ 0 := by rintro rfl; rw [blen_zero] at hb; omega
  have b1 : blen q ≤ 960000 := by have := bl_bd (m := (q : Int)) (k := 30000) (by rw [Int.natAbs_natCast]; exact hl); rwa [Int.natAbs_natCast] at this
  obtain ⟨z, hz⟩ : ∃ z : Int, (blen q : Int) = z := ⟨_, rfl⟩
  obtain ⟨d, hd⟩ : ∃ d : Nat, blen q - p = d := ⟨_, rfl⟩
  rw [hd] at hM hE
  have hzd : z - P = (d : Int) := by omega
  have z0 : 0 ≤ z := by omega
  have z1 : z ≤ 960000 := by omega
  have pp0 : 2 ≤ P := by omega
  have pp1 : P ≤ 400 := by omega
  have zp0 : 0 ≤ z - P := by omega
  have HZ := Lib.hid hz
  have HZD := Lib.hid hzd
  have LX := Lib.hid hl
  have Q0 := Lib.hid q0
  have hlk := digs_len_mono _ _ (Nat.div_le_self q (2 ^ d))
  have hdk : d ≤ 960000 := by omega
  have hlk1 := digs_add_len (q / 2 ^ d) 1
  have l1 : (digs 1).length = 1 := by rw [digs_one (by omega) (by omega)]; rfl
  have LK1 := Lib.hid (show (digs (q / 2 ^ d + 1)).length ≤ 30001 by omega)
  have LK := Lib.hid (show (digs (q / 2 ^ d)).length ≤ 30000 by omega)
  obtain ⟨k, hk⟩ : ∃ k, q / 2 ^ d = k := ⟨_, rfl⟩
  rw [hk] at hM hE LK LK1
  have HK := Lib.hid hk
  have HM := Lib.hid hM
  have HE := Lib.hid (show nx (sg false (k + 1)) (y + (z - P)) = E by rw [hzd]; exact hE)
  have SHR := Lib.hid (fun W (hW : Dg W A c (digs q)) => shr_i (i := z - P) hW (by omega) hzd (by omega))
  rw [hk] at SHR
  have HT := Lib.hid hT
  clear hT
  have L0 := Lib.hid ((live_start w).add h)
  clear h hl hP hb hz hd hzd q0 hM hE hlk hlk1 l1 hk b1
  go_enter Tryd.func68, Tryd.ntmps68
  go_wp2_with fail
  obtain ⟨v1, hW, hb, Rx_1, Rr_1⟩ := new2 w (.cells #[.bool false, .slice A (digs q).length c, .int .i64 y] 26) (.cells #[.bool false, .slice none 0 0, .int .i64 0] 26)
  rw [← hW]
  have L1 := ls L0 hb
  have Gx := gl0 L0.out
  have Gr := gl1 L0.out
  have Nxr : w.heap.size < w.heap.size + 1 := by omega
  clear hW hb
  refine (bits_b (L1.out.get (A := A) (c := c) (xs := digs q) (by simp)) (Nat.le_trans LX.out (by omega)) HZ.out).mono ?_
  rintro e w2 ⟨rfl, rfl⟩
  obtain ⟨fx0, zx0, fx1, zx1, fx2, zx2, xx⟩ := ly3 Rx_1.out
  go_wp2_with fail
  refine (SHR.out _ (L1.out.get (A := A) (c := c) (xs := digs q) (by simp))).mono ?_
  rintro e w3 ⟨A3, c3, rfl, hd, hb⟩
  have L3 := la L1 hb hd
  clear fx0 zx0 fx1 zx1 fx2 zx2 xx
  have Rx_3 := co Rx_1 hb
  have Rr_3 := co Rr_1 hb
  clear hb hd
  obtain ⟨fx0, zx0, fx1, zx1, fx2, zx2, xx⟩ := ly3 Rx_3.out
  go_wp2_with fail
  obtain ⟨w4, hW, hb, Rone_4⟩ := new1 w3 (.cells #[.int .u32 1] 52)
  rw [← hW]
  have L4 := ls L3 hb
  have Rx_4 := co Rx_3 hb
  have Rr_4 := co Rr_3 hb
  have Gone := gl0 L3.out
  have Nxone := nl0 Rx_3.out
  have Nrone := nl0 Rr_3.out
  clear hW hb
  clear fx0 zx0 fx1 zx1 fx2 zx2 xx
  refine (nadd1 (L4.out.get (A := A3) (c := c3) (xs := digs k) (by simp)) (Nat.le_trans LK.out (by omega)) Rone_4.out).mono ?_
  rintro e w5 ⟨A5, c5, rfl, hd, hb⟩
  have L5 := la L4 hb hd
  have Rx_5 := co Rx_4 hb
  have Rr_5 := co Rr_4 hb
  have Rone_5 := co Rone_4 hb
  clear hb hd
  obtain ⟨fx0, zx0, fx1, zx1, fx2, zx2, xx⟩ := ly3 Rx_5.out
  clear fx0 zx0 fx1 zx1 fx2 zx2 xx
  obtain ⟨fx0, zx0, fx1, zx1, fx2, zx2, xx⟩ := ly3 Rx_5.out
  go_wp2_with fail
  refine (odd_any A5 c5 false (k + 1) (y + (z - P)) M E _ (L5.out.get (A := A5) (c := c5) (xs := digs (k + 1)) (by simp)) (Nat.le_trans LK1.out (by omega)) (t32_live HT.out L5.out) ⟨by omega, by omega⟩ HM.out HE.out).mono ?_
  rintro e w6 ⟨A6, c6, rfl, hd, hb⟩
  have L6 := la L5 hb hd
  clear fx0 zx0 fx1 zx1 fx2 zx2 xx
  have Rx_6 := co Rx_5 hb
  have Rr_6 := co Rr_5 hb
  have Rone_6 := co Rone_5 hb
  clear hb hd
  obtain ⟨fr0, zr0, fr1, zr1, fr2, zr2, xr⟩ := ly3 Rr_6.out
  go_wp2
  refine bodyPost_ret (v := .agg #[.bool (decide (M < 0)), .slice A6 (digs M.natAbs).length c6, .int .i64 E]) (by simp [results, Tryd.results68, go_sem, fr0, fr1, fr2]) rfl ?_
  
  refine ⟨A6, c6, rfl, ?_, ?_⟩
  · exact (fin3 L6.out Rr_6.out noint3 Gr).get (A := A6) (c := c6) (xs := digs M.natAbs) (by simp)
  · exact (fin3 L6.out Rr_6.out noint3 Gr).1

set_option maxHeartbeats 4000000 in
set_option maxRecDepth 100000 in
theorem cut_mla_f (A : Option Addr) (c : Nat) (q : Nat) (y P : Int) (p : Nat) (M E : Int) (w : World) (h : Dg w A c (digs q)) (hl : (digs q).length ≤ 30000) (hT : T32 w) (hP : (p : Int) = P) (p2 : 2 ≤ p) (p4 : p ≤ 400) (hb : p ≤ blen q) (y0 : -900000 ≤ y) (y1 : y ≤ 900000) (hM : nm (sg true (q / 2 ^ (blen q - p) + 1)) = M) (hE : nx (sg true (q / 2 ^ (blen q - p) + 1)) (y + (blen q - p : Nat)) = E):
    Calls Tryd.prog 68 #[.agg #[.bool true, .slice A (digs q).length c, .int .i64 y], .bool true, .int .i64 P, .bool false] w fun e w' => Yr M E w e w' := by
  have q0 : q ≠ 0 := by rintro rfl; rw [blen_zero] at hb; omega
  have b1 : blen q ≤ 960000 := by have := bl_bd (m := (q : Int)) (k := 30000) (by rw [Int.natAbs_natCast]; exact hl); rwa [Int.natAbs_natCast] at this
  obtain ⟨z, hz⟩ : ∃ z : Int, (blen q : Int) = z := ⟨_, rfl⟩
  obtain ⟨d, hd⟩ : ∃ d : Nat, blen q - p = d := ⟨_, rfl⟩
  rw [hd] at hM hE
  have hzd : z - P = (d : Int) := by omega
  have z0 : 0 ≤ z := by omega
  have z1 : z ≤ 960000 := by omega
  have pp0 : 2 ≤ P := by omega
  have pp1 : P ≤ 400 := by omega
  have zp0 : 0 ≤ z - P := by omega
  have HZ := Lib.hid hz
  have HZD := Lib.hid hzd
  have LX := Lib.hid hl
  have Q0 := Lib.hid q0
  have hlk := digs_len_mono _ _ (Nat.div_le_self q (2 ^ d))
  have hdk : d ≤ 960000 := by omega
  have hlk1 := digs_add_len (q / 2 ^ d) 1
  have l1 : (digs 1).length = 1 := by rw [digs_one (by omega) (by omega)]; rfl
  have LK1 := Lib.hid (show (digs (q / 2 ^ d + 1)).length ≤ 30001 by omega)
  have LK := Lib.hid (show (digs (q / 2 ^ d)).length ≤ 30000 by omega)
  obtain ⟨k, hk⟩ : ∃ k, q / 2 ^ d = k := ⟨_, rfl⟩
  rw [hk] at hM hE LK LK1
  have HK := Lib.hid hk
  have HM := Lib.hid hM
  have HE := Lib.hid (show nx (sg true (k + 1)) (y + (z - P)) = E by rw [hzd]; exact hE)
  have SHR := Lib.hid (fun W (hW : Dg W A c (digs q)) => shr_i (i := z - P) hW (by omega) hzd (by omega))
  rw [hk] at SHR
  have HT := Lib.hid hT
  clear hT
  have L0 := Lib.hid ((live_start w).add h)
  clear h hl hP hb hz hd hzd q0 hM hE hlk hlk1 l1 hk b1
  go_enter Tryd.func68, Tryd.ntmps68
  go_wp2_with fail
  obtain ⟨v1, hW, hb, Rx_1, Rr_1⟩ := new2 w (.cells #[.bool true, .slice A (digs q).length c, .int .i64 y] 26) (.cells #[.bool false, .slice none 0 0, .int .i64 0] 26)
  rw [← hW]
  have L1 := ls L0 hb
  have Gx := gl0 L0.out
  have Gr := gl1 L0.out
  have Nxr : w.heap.size < w.heap.size + 1 := by omega
  clear hW hb
  refine (bits_b (L1.out.get (A := A) (c := c) (xs := digs q) (by simp)) (Nat.le_trans LX.out (by omega)) HZ.out).mono ?_
  rintro e w2 ⟨rfl, rfl⟩
  obtain ⟨fx0, zx0, fx1, zx1, fx2, zx2, xx⟩ := ly3 Rx_1.out
  go_wp2_with fail
  refine (SHR.out _ (L1.out.get (A := A) (c := c) (xs := digs q) (by simp))).mono ?_
  rintro e w3 ⟨A3, c3, rfl, hd, hb⟩
  have L3 := la L1 hb hd
  clear fx0 zx0 fx1 zx1 fx2 zx2 xx
  have Rx_3 := co Rx_1 hb
  have Rr_3 := co Rr_1 hb
  clear hb hd
  obtain ⟨fx0, zx0, fx1, zx1, fx2, zx2, xx⟩ := ly3 Rx_3.out
  go_wp2_with fail
  obtain ⟨w4, hW, hb, Rone_4⟩ := new1 w3 (.cells #[.int .u32 1] 52)
  rw [← hW]
  have L4 := ls L3 hb
  have Rx_4 := co Rx_3 hb
  have Rr_4 := co Rr_3 hb
  have Gone := gl0 L3.out
  have Nxone := nl0 Rx_3.out
  have Nrone := nl0 Rr_3.out
  clear hW hb
  clear fx0 zx0 fx1 zx1 fx2 zx2 xx
  refine (nadd1 (L4.out.get (A := A3) (c := c3) (xs := digs k) (by simp)) (Nat.le_trans LK.out (by omega)) Rone_4.out).mono ?_
  rintro e w5 ⟨A5, c5, rfl, hd, hb⟩
  have L5 := la L4 hb hd
  have Rx_5 := co Rx_4 hb
  have Rr_5 := co Rr_4 hb
  have Rone_5 := co Rone_4 hb
  clear hb hd
  obtain ⟨fx0, zx0, fx1, zx1, fx2, zx2, xx⟩ := ly3 Rx_5.out
  clear fx0 zx0 fx1 zx1 fx2 zx2 xx
  obtain ⟨fx0, zx0, fx1, zx1, fx2, zx2, xx⟩ := ly3 Rx_5.out
  go_wp2_with fail
  refine (odd_any A5 c5 true (k + 1) (y + (z - P)) M E _ (L5.out.get (A := A5) (c := c5) (xs := digs (k + 1)) (by simp)) (Nat.le_trans LK1.out (by omega)) (t32_live HT.out L5.out) ⟨by omega, by omega⟩ HM.out HE.out).mono ?_
  rintro e w6 ⟨A6, c6, rfl, hd, hb⟩
  have L6 := la L5 hb hd
  clear fx0 zx0 fx1 zx1 fx2 zx2 xx
  have Rx_6 := co Rx_5 hb
  have Rr_6 := co Rr_5 hb
  have Rone_6 := co Rone_5 hb
  clear hb hd
  obtain ⟨fr0, zr0, fr1, zr1, fr2, zr2, xr⟩ := ly3 Rr_6.out
  go_wp2
  refine bodyPost_ret (v := .agg #[.bool (decide (M < 0)), .slice A6 (digs M.natAbs).length c6, .int .i64 E]) (by simp [results, Tryd.results68, go_sem, fr0, fr1, fr2]) rfl ?_
  
  refine ⟨A6, c6, rfl, ?_, ?_⟩
  · exact (fin3 L6.out Rr_6.out noint3 Gr).get (A := A6) (c := c6) (xs := digs M.natAbs) (by simp)
  · exact (fin3 L6.out Rr_6.out noint3 Gr).1

set_option maxHeartbeats 4000000 in
set_option maxRecDepth 100000 in
theorem cut_mlf_t (A : Option Addr) (c : Nat) (q : Nat) (y P : Int) (p : Nat) (M E : Int) (w : World) (h : Dg w A c (digs q)) (hl : (digs q).length ≤ 30000) (hT : T32 w) (hP : (p : Int) = P) (p2 : 2 ≤ p) (p4 : p ≤ 400) (hb : p ≤ blen q) (y0 : -900000 ≤ y) (y1 : y ≤ 900000) (hM : nm (sg true (q / 2 ^ (blen q - p))) = M) (hE : nx (sg true (q / 2 ^ (blen q - p))) (y + (blen q - p : Nat)) = E):
    Calls Tryd.prog 68 #[.agg #[.bool true, .slice A (digs q).length c, .int .i64 y], .bool true, .int .i64 P, .bool true] w fun e w' => Yr M E w e w' := by
  have q0 : q ≠ 0 := by rintro rfl; rw [blen_zero] at hb; omega
  have b1 : blen q ≤ 960000 := by have := bl_bd (m := (q : Int)) (k := 30000) (by rw [Int.natAbs_natCast]; exact hl); rwa [Int.natAbs_natCast] at this
  obtain ⟨z, hz⟩ : ∃ z : Int, (blen q : Int) = z := ⟨_, rfl⟩
  obtain ⟨d, hd⟩ : ∃ d : Nat, blen q - p = d := ⟨_, rfl⟩
  rw [hd] at hM hE
  have hzd : z - P = (d : Int) := by omega
  have z0 : 0 ≤ z := by omega
  have z1 : z ≤ 960000 := by omega
  have pp0 : 2 ≤ P := by omega
  have pp1 : P ≤ 400 := by omega
  have zp0 : 0 ≤ z - P := by omega
  have HZ := Lib.hid hz
  have HZD := Lib.hid hzd
  have LX := Lib.hid hl
  have Q0 := Lib.hid q0
  have hlk := digs_len_mono _ _ (Nat.div_le_self q (2 ^ d))
  have hdk : d ≤ 960000 := by omega
  have hlk1 := digs_add_len (q / 2 ^ d) 1
  have l1 : (digs 1).length = 1 := by rw [digs_one (by omega) (by omega)]; rfl
  have LK1 := Lib.hid (show (digs (q / 2 ^ d + 1)).length ≤ 30001 by omega)
  have LK := Lib.hid (show (digs (q / 2 ^ d)).length ≤ 30000 by omega)
  obtain ⟨k, hk⟩ : ∃ k, q / 2 ^ d = k := ⟨_, rfl⟩
  rw [hk] at hM hE LK LK1
  have HK := Lib.hid hk
  have HM := Lib.hid hM
  have HE := Lib.hid (show nx (sg true (k)) (y + (z - P)) = E by rw [hzd]; exact hE)
  have SHR := Lib.hid (fun W (hW : Dg W A c (digs q)) => shr_i (i := z - P) hW (by omega) hzd (by omega))
  rw [hk] at SHR
  have HT := Lib.hid hT
  clear hT
  have L0 := Lib.hid ((live_start w).add h)
  clear h hl hP hb hz hd hzd q0 hM hE hlk hlk1 l1 hk b1
  go_enter Tryd.func68, Tryd.ntmps68
  go_wp2_with fail
  obtain ⟨v1, hW, hb, Rx_1, Rr_1⟩ := new2 w (.cells #[.bool true, .slice A (digs q).length c, .int .i64 y] 26) (.cells #[.bool false, .slice none 0 0, .int .i64 0] 26)
  rw [← hW]
  have L1 := ls L0 hb
  have Gx := gl0 L0.out
  have Gr := gl1 L0.out
  have Nxr : w.heap.size < w.heap.size + 1 := by omega
  clear hW hb
  refine (bits_b (L1.out.get (A := A) (c := c) (xs := digs q) (by simp)) (Nat.le_trans LX.out (by omega)) HZ.out).mono ?_
  rintro e w2 ⟨rfl, rfl⟩
  obtain ⟨fx0, zx0, fx1, zx1, fx2, zx2, xx⟩ := ly3 Rx_1.out
  go_wp2_with fail
  refine (SHR.out _ (L1.out.get (A := A) (c := c) (xs := digs q) (by simp))).mono ?_
  rintro e w3 ⟨A3, c3, rfl, hd, hb⟩
  have L3 := la L1 hb hd
  clear fx0 zx0 fx1 zx1 fx2 zx2 xx
  have Rx_3 := co Rx_1 hb
  have Rr_3 := co Rr_1 hb
  clear hb hd
  obtain ⟨fx0, zx0, fx1, zx1, fx2, zx2, xx⟩ := ly3 Rx_3.out
  clear fx0 zx0 fx1 zx1 fx2 zx2 xx
  obtain ⟨fx0, zx0, fx1, zx1, fx2, zx2, xx⟩ := ly3 Rx_3.out
  go_wp2_with fail
  refine (odd_any A3 c3 true k (y + (z - P)) M E _ (L3.out.get (A := A3) (c := c3) (xs := digs k) (by simp)) (Nat.le_trans LK.out (by omega)) (t32_live HT.out L3.out) ⟨by omega, by omega⟩ HM.out HE.out).mono ?_
  rintro e w4 ⟨A4, c4, rfl, hd, hb⟩
  have L4 := la L3 hb hd
  clear fx0 zx0 fx1 zx1 fx2 zx2 xx
  have Rx_4 := co Rx_3 hb
  have Rr_4 := co Rr_3 hb
  clear hb hd
  obtain ⟨fr0, zr0, fr1, zr1, fr2, zr2, xr⟩ := ly3 Rr_4.out
  go_wp2
  refine bodyPost_ret (v := .agg #[.bool (decide (M < 0)), .slice A4 (digs M.natAbs).length c4, .int .i64 E]) (by simp [results, Tryd.results68, go_sem, fr0, fr1, fr2]) rfl ?_
  
  refine ⟨A4, c4, rfl, ?_, ?_⟩
  · exact (fin3 L4.out Rr_4.out noint3 Gr).get (A := A4) (c := c4) (xs := digs M.natAbs) (by simp)
  · exact (fin3 L4.out Rr_4.out noint3 Gr).1

set_option maxHeartbeats 4000000 in
set_option maxRecDepth 100000 in
theorem cut_mlf_f (A : Option Addr) (c : Nat) (q : Nat) (y P : Int) (p : Nat) (M E : Int) (w : World) (h : Dg w A c (digs q)) (hl : (digs q).length ≤ 30000) (hT : T32 w) (hP : (p : Int) = P) (p2 : 2 ≤ p) (p4 : p ≤ 400) (hb : p ≤ blen q) (y0 : -900000 ≤ y) (y1 : y ≤ 900000) (hM : nm (sg false (q / 2 ^ (blen q - p))) = M) (hE : nx (sg false (q / 2 ^ (blen q - p))) (y + (blen q - p : Nat)) = E):
    Calls Tryd.prog 68 #[.agg #[.bool false, .slice A (digs q).length c, .int .i64 y], .bool true, .int .i64 P, .bool false] w fun e w' => Yr M E w e w' := by
  have q0 : q ≠ 0 := by rintro rfl; rw [blen_zero] at hb; omega
  have b1 : blen q ≤ 960000 := by have := bl_bd (m := (q : Int)) (k := 30000) (by rw [Int.natAbs_natCast]; exact hl); rwa [Int.natAbs_natCast] at this
  obtain ⟨z, hz⟩ : ∃ z : Int, (blen q : Int) = z := ⟨_, rfl⟩
  obtain ⟨d, hd⟩ : ∃ d : Nat, blen q - p = d := ⟨_, rfl⟩
  rw [hd] at hM hE
  have hzd : z - P = (d : Int) := by omega
  have z0 : 0 ≤ z := by omega
  have z1 : z ≤ 960000 := by omega
  have pp0 : 2 ≤ P := by omega
  have pp1 : P ≤ 400 := by omega
  have zp0 : 0 ≤ z - P := by omega
  have HZ := Lib.hid hz
  have HZD := Lib.hid hzd
  have LX := Lib.hid hl
  have Q0 := Lib.hid q0
  have hlk := digs_len_mono _ _ (Nat.div_le_self q (2 ^ d))
  have hdk : d ≤ 960000 := by omega
  have hlk1 := digs_add_len (q / 2 ^ d) 1
  have l1 : (digs 1).length = 1 := by rw [digs_one (by omega) (by omega)]; rfl
  have LK1 := Lib.hid (show (digs (q / 2 ^ d + 1)).length ≤ 30001 by omega)
  have LK := Lib.hid (show (digs (q / 2 ^ d)).length ≤ 30000 by omega)
  obtain ⟨k, hk⟩ : ∃ k, q / 2 ^ d = k := ⟨_, rfl⟩
  rw [hk] at hM hE LK LK1
  have HK := Lib.hid hk
  have HM := Lib.hid hM
  have HE := Lib.hid (show nx (sg false (k)) (y + (z - P)) = E by rw [hzd]; exact hE)
  have SHR := Lib.hid (fun W (hW : Dg W A c (digs q)) => shr_i (i := z - P) hW (by omega) hzd (by omega))
  rw [hk] at SHR
  have HT := Lib.hid hT
  clear hT
  have L0 := Lib.hid ((live_start w).add h)
  clear h hl hP hb hz hd hzd q0 hM hE hlk hlk1 l1 hk b1
  go_enter Tryd.func68, Tryd.ntmps68
  go_wp2_with fail
  obtain ⟨v1, hW, hb, Rx_1, Rr_1⟩ := new2 w (.cells #[.bool false, .slice A (digs q).length c, .int .i64 y] 26) (.cells #[.bool false, .slice none 0 0, .int .i64 0] 26)
  rw [← hW]
  have L1 := ls L0 hb
  have Gx := gl0 L0.out
  have Gr := gl1 L0.out
  have Nxr : w.heap.size < w.heap.size + 1 := by omega
  clear hW hb
  refine (bits_b (L1.out.get (A := A) (c := c) (xs := digs q) (by simp)) (Nat.le_trans LX.out (by omega)) HZ.out).mono ?_
  rintro e w2 ⟨rfl, rfl⟩
  obtain ⟨fx0, zx0, fx1, zx1, fx2, zx2, xx⟩ := ly3 Rx_1.out
  go_wp2_with fail
  refine (SHR.out _ (L1.out.get (A := A) (c := c) (xs := digs q) (by simp))).mono ?_
  rintro e w3 ⟨A3, c3, rfl, hd, hb⟩
  have L3 := la L1 hb hd
  clear fx0 zx0 fx1 zx1 fx2 zx2 xx
  have Rx_3 := co Rx_1 hb
  have Rr_3 := co Rr_1 hb
  clear hb hd
  obtain ⟨fx0, zx0, fx1, zx1, fx2, zx2, xx⟩ := ly3 Rx_3.out
  clear fx0 zx0 fx1 zx1 fx2 zx2 xx
  obtain ⟨fx0, zx0, fx1, zx1, fx2, zx2, xx⟩ := ly3 Rx_3.out
  go_wp2_with fail
  refine (odd_any A3 c3 false k (y + (z - P)) M E _ (L3.out.get (A := A3) (c := c3) (xs := digs k) (by simp)) (Nat.le_trans LK.out (by omega)) (t32_live HT.out L3.out) ⟨by omega, by omega⟩ HM.out HE.out).mono ?_
  rintro e w4 ⟨A4, c4, rfl, hd, hb⟩
  have L4 := la L3 hb hd
  clear fx0 zx0 fx1 zx1 fx2 zx2 xx
  have Rx_4 := co Rx_3 hb
  have Rr_4 := co Rr_3 hb
  clear hb hd
  obtain ⟨fr0, zr0, fr1, zr1, fr2, zr2, xr⟩ := ly3 Rr_4.out
  go_wp2
  refine bodyPost_ret (v := .agg #[.bool (decide (M < 0)), .slice A4 (digs M.natAbs).length c4, .int .i64 E]) (by simp [results, Tryd.results68, go_sem, fr0, fr1, fr2]) rfl ?_
  
  refine ⟨A4, c4, rfl, ?_, ?_⟩
  · exact (fin3 L4.out Rr_4.out noint3 Gr).get (A := A4) (c := c4) (xs := digs M.natAbs) (by simp)
  · exact (fin3 L4.out Rr_4.out noint3 Gr).1

theorem cut_any (A : Option Addr) (c : Nat) (s up more : Bool) (q : Nat) (y P : Int) (p : Nat) (M E : Int) (w : World) (h : Dg w A c (digs q)) (hl : (digs q).length ≤ 30000) (hT : T32 w) (hP : (p : Int) = P) (p2 : 2 ≤ p) (p4 : p ≤ 400) (hb : p ≤ blen q) (y0 : -900000 ≤ y) (y1 : y ≤ 900000) (hM : nm (sg s (kept q p more (up != s))) = M) (hE : nx (sg s (kept q p more (up != s))) (y + (blen q - p : Nat)) = E) :
    Calls Tryd.prog 68 #[.agg #[.bool s, .slice A (digs q).length c, .int .i64 y], .bool more, .int .i64 P, .bool up] w fun e w' => Yr M E w e w' := by
  unfold kept at hM hE
  cases more
  · rcases hlow : decide (q % 2 ^ (blen q - p) ≠ 0) with _ | _
    · rw [hlow] at hM hE
      simp only [Bool.or_self, Bool.false_and, Bool.false_eq_true, if_false, Nat.add_zero] at hM hE
      cases s <;> cases up
      · exact cut_nnf_f A c q y P p M E w h hl hT hP p2 p4 hb y0 y1 hM hE hlow
      · exact cut_nna_t A c q y P p M E w h hl hT hP p2 p4 hb y0 y1 hM hE hlow
      · exact cut_nna_f A c q y P p M E w h hl hT hP p2 p4 hb y0 y1 hM hE hlow
      · exact cut_nnf_t A c q y P p M E w h hl hT hP p2 p4 hb y0 y1 hM hE hlow
    · rw [hlow] at hM hE
      cases s <;> cases up
      · exact cut_nlf_f A c q y P p M E w h hl hT hP p2 p4 hb y0 y1 (by simpa using hM) (by simpa using hE) hlow
      · exact cut_nla_t A c q y P p M E w h hl hT hP p2 p4 hb y0 y1 (by simpa using hM) (by simpa using hE) hlow
      · exact cut_nla_f A c q y P p M E w h hl hT hP p2 p4 hb y0 y1 (by simpa using hM) (by simpa using hE) hlow
      · exact cut_nlf_t A c q y P p M E w h hl hT hP p2 p4 hb y0 y1 (by simpa using hM) (by simpa using hE) hlow
  · cases s <;> cases up
    · exact cut_mlf_f A c q y P p M E w h hl hT hP p2 p4 hb y0 y1 (by simpa using hM) (by simpa using hE)
    · exact cut_mla_t A c q y P p M E w h hl hT hP p2 p4 hb y0 y1 (by simpa using hM) (by simpa using hE)
    · exact cut_mla_f A c q y P p M E w h hl hT hP p2 p4 hb y0 y1 (by simpa using hM) (by simpa using hE)
    · exact cut_mlf_t A c q y P p M E w h hl hT hP p2 p4 hb y0 y1 (by simpa using hM) (by simpa using hE)
end Go.Proofs.YtaciohjobenipaaDoor
end

section
/-
  dyad.Round.
-/
namespace Go.Proofs.YtaciohjobenipaaDoor
open Go.RowKit
set_option linter.unusedSimpArgs false
set_option linter.unusedVariables false
theorem rd_kept {q p : Nat} {more up s : Bool} {r : Rat} {e : Int} (hp : p ≤ blen q) (h1 : 1 ≤ p) (hlo : dv q e ≤ r) (hhi : r < dv (q + 1 : Int) e) (hm : more = decide (r ≠ dv q e)) :
    RdOf (if s then -r else r) p up (nm (sg s (kept q p more (up != s)))) (nx (sg s (kept q p more (up != s))) (e + (blen q - p : Nat))) := by
  have ⟨hs, hr⟩ := kept_rn (away := (up != s)) hp h1 hlo hhi hm
  refine ⟨nf_n _ _, .inr ⟨e + (blen q - p : Nat), sg s (kept q p more (up != s)), ?_, ?_, dv_n _ _⟩⟩
  · cases s
    · exact hs
    · show Sz (-r) _
      unfold Sz at hs ⊢
      rw [Rat.abs_neg]; exact hs
  · cases s
    · have e1 : (up != false) = up := by cases up <;> rfl
      rw [e1] at hr ⊢
      exact hr
    · have e1 : (up != true) = !up := by cases up <;> rfl
      rw [e1] at hr ⊢
      have := hr.neg
      rw [Bool.not_not] at this
      exact this
theorem dv_sign (m x : Int) : dv m x = if decide (m < 0) = true then -dv (m.natAbs : Int) x else dv (m.natAbs : Int) x := by
  by_cases h : m < 0
  · rw [if_pos (by simpa using h), ← dv_neg]; congr 1; omega
  · rw [if_neg (by simpa using h)]; congr 1; omega
theorem precB_in {P : Int} (h0 : 2 ≤ P) (h1 : P ≤ 400) : precB P = true := by unfold precB; rw [decide_eq_true h0, decide_eq_true h1]; rfl

set_option maxHeartbeats 4000000 in
set_option maxRecDepth 100000 in
theorem round_s_ (A : Option Addr) (c : Nat) (m x P M E : Int) (up : Bool) (w : World) (h : Dg w A c (digs m.natAbs)) (hl : (digs m.natAbs).length ≤ 10000) (r1 : Rt m x) (hT : T32 w) {p : Nat} (hP : (p : Int) = P) (p2 : 2 ≤ p) (p4 : p ≤ 400) (hs : RdOf (dv m x) p up M E) (hq : inR M E = true) (hc : bl m ≤ p):
    Calls Tryd.prog 31 #[.agg #[.bool (decide (m < 0)), .slice A (digs m.natAbs).length c, .int .i64 x], .int .i64 P, .bool up] w fun e w' => Ye M E 0 w e w' := by
  have HR1 := Lib.hid r1
  have lx := Lib.hid hl
  have HQ := Lib.hid hq
  have x0 := r1.2.1
  have x1 := r1.2.2
  have LM := Lib.hid (inr_len hq)
  have HPR := Lib.hid (precB_in (P := P) (by omega) (by omega))
  have b1 := bl_bd hl
  obtain ⟨z, hz⟩ : ∃ z : Int, (blen m.natAbs : Int) = z := ⟨_, rfl⟩
  have HZ := Lib.hid hz
  have d1 : decide (z ≤ P) = true := by simp; unfold bl at hc; omega
  obtain ⟨rfl, rfl⟩ := RdOf.uniq (rd_self (up := up) r1.1 hc) hs
  have HT := Lib.hid hT
  clear hT
  have L0 := Lib.hid ((live_start w).add h)
  clear h hl r1 hs hq hP hz b1 hc
  go_enter Tryd.func31, Tryd.ntmps31
  go_wp2_with fail
  obtain ⟨v1, hW, hb, Rx_1, Rr_1, Rsl_1⟩ := new3 w (.cells #[.bool (decide (m < 0)), .slice A (digs m.natAbs).length c, .int .i64 x] 26) (.cells #[.bool false, .slice none 0 0, .int .i64 0] 26) (.cells #[.bool (decide (m < 0)), .slice A (digs m.natAbs).length c, .int .i64 x] 26)
  rw [← hW]
  have L1 := ls L0 hb
  have Gx := gl0 L0.out
  have Gr := gl1 L0.out
  have Nxr : w.heap.size < w.heap.size + 1 := by omega
  have Gsl := gl2 L0.out
  have Nxsl : w.heap.size < w.heap.size + 1 + 1 := by omega
  have Nrsl : w.heap.size + 1 < w.heap.size + 1 + 1 := by omega
  clear hW hb
  refine (begin_1 Rsl_1.out (L1.out.get (A := A) (c := c) (xs := digs m.natAbs) (by simp)) (dyR_num HR1.out) (Nat.le_trans lx.out (by omega)) (k := 0) rfl).mono ?_
  rintro e w2 ⟨rfl, hb⟩
  have L2 := ls L1 hb
  have Rx_2 := co Rx_1 hb
  have Rr_2 := co Rr_1 hb
  have Rsl_2 := co Rsl_1 hb
  clear hb 
  go_wp2_with fail
  obtain ⟨w3, hW, hb, Rk_3⟩ := new1 w2 (.cells #[.int .i64 0] 66)
  rw [← hW]
  have L3 := ls L2 hb
  have Rx_3 := co Rx_2 hb
  have Rr_3 := co Rr_2 hb
  have Rsl_3 := co Rsl_2 hb
  have Gk := gl0 L2.out
  have Nxk := nl0 Rx_2.out
  have Nrk := nl0 Rr_2.out
  have Nslk := nl0 Rsl_2.out
  clear hW hb
  refine (precision_no _ 0 P _ (row_c Rk_3.out (i := 0) rfl) (.inl HPR.out)).mono ?_
  rintro e w4 ⟨rfl, rfl⟩
  go_wp2_with fail
  refine (fails_any _ 0 false _ (row_c Rk_3.out (i := 0) rfl) rfl).mono ?_
  rintro e w5 ⟨rfl, rfl⟩
  obtain ⟨fx0, zx0, fx1, zx1, fx2, zx2, xx⟩ := ly3 Rx_3.out
  go_wp2_with fail
  refine (bits_b (L3.out.get (A := A) (c := c) (xs := digs m.natAbs) (by simp)) (Nat.le_trans lx.out (by omega)) HZ.out).mono ?_
  rintro e w6 ⟨rfl, rfl⟩
  clear fx0 zx0 fx1 zx1 fx2 zx2 xx
  obtain ⟨fx0, zx0, fx1, zx1, fx2, zx2, xx⟩ := ly3 Rx_3.out
  go_wp2_with fail
  refine (answer_d (row_c Rk_3.out (i := 0) rfl) (heap_lt Rk_3.out) (L3.out.get (A := A) (c := c) (xs := digs m.natAbs) (by simp)) (Nat.le_trans LM.out (by omega)) HQ.out).mono ?_
  rintro e w7 ⟨A7, c7, rfl, hd, hb⟩
  have L7 := la L3 hb hd
  clear fx0 zx0 fx1 zx1 fx2 zx2 xx
  have Rx_7 := co Rx_3 hb
  have Rr_7 := co Rr_3 hb
  have Rsl_7 := co Rsl_3 hb
  have Rk_7 := co Rk_3 hb
  clear hb hd
  obtain ⟨fr0, zr0, fr1, zr1, fr2, zr2, xr⟩ := ly3 Rr_7.out
  go_wp2
  refine bodyPost_ret (v := .tuple #[.agg #[.bool (decide (m < 0)), .slice A7 (digs m.natAbs).length c7, .int .i64 x], .int .i64 0]) (by simp [results, Tryd.results31, go_sem, fr0, fr1, fr2]) rfl ?_
  
  refine ⟨A7, c7, rfl, ?_, ?_⟩
  · exact (fin3 L7.out Rr_7.out noint3 Gr).get (A := A7) (c := c7) (xs := digs m.natAbs) (by simp)
  · exact (fin3 L7.out Rr_7.out noint3 Gr).1

set_option maxHeartbeats 4000000 in
set_option maxRecDepth 100000 in
theorem round_b_ (A : Option Addr) (c : Nat) (m x P M E : Int) (up : Bool) (w : World) (h : Dg w A c (digs m.natAbs)) (hl : (digs m.natAbs).length ≤ 10000) (r1 : Rt m x) (hT : T32 w) {p : Nat} (hP : (p : Int) = P) (p2 : 2 ≤ p) (p4 : p ≤ 400) (hs : RdOf (dv m x) p up M E) (hq : inR M E = true) (hc : p < bl m):
    Calls Tryd.prog 31 #[.agg #[.bool (decide (m < 0)), .slice A (digs m.natAbs).length c, .int .i64 x], .int .i64 P, .bool up] w fun e w' => Ye M E 0 w e w' := by
  have HR1 := Lib.hid r1
  have lx := Lib.hid hl
  have HQ := Lib.hid hq
  have x0 := r1.2.1
  have x1 := r1.2.2
  have LM := Lib.hid (inr_len hq)
  have HPR := Lib.hid (precB_in (P := P) (by omega) (by omega))
  have b1 := bl_bd hl
  obtain ⟨z, hz⟩ : ∃ z : Int, (blen m.natAbs : Int) = z := ⟨_, rfl⟩
  have HZ := Lib.hid hz
  have d1 : decide (z ≤ P) = false := by simp; unfold bl at hc; omega
  have hk := rd_kept (q := m.natAbs) (p := p) (more := false) (up := up) (s := decide (m < 0)) (r := dv (m.natAbs : Int) x) (e := x) (by unfold bl at hc; omega) (by omega) Rat.le_refl (dv_lt.2 (by omega)) (by simp)
  rw [← dv_sign] at hk
  have hu := RdOf.uniq hk hs
  have HM := Lib.hid hu.1
  have HE := Lib.hid hu.2
  have HP2 := Lib.hid hP
  have HB := Lib.hid (show p ≤ blen m.natAbs by unfold bl at hc; omega)
  have HT := Lib.hid hT
  clear hT
  have L0 := Lib.hid ((live_start w).add h)
  clear h hl r1 hs hq hP hz b1 hc hk hu
  go_enter Tryd.func31, Tryd.ntmps31
  go_wp2_with fail
  obtain ⟨v1, hW, hb, Rx_1, Rr_1, Rsl_1⟩ := new3 w (.cells #[.bool (decide (m < 0)), .slice A (digs m.natAbs).length c, .int .i64 x] 26) (.cells #[.bool false, .slice none 0 0, .int .i64 0] 26) (.cells #[.bool (decide (m < 0)), .slice A (digs m.natAbs).length c, .int .i64 x] 26)
  rw [← hW]
  have L1 := ls L0 hb
  have Gx := gl0 L0.out
  have Gr := gl1 L0.out
  have Nxr : w.heap.size < w.heap.size + 1 := by omega
  have Gsl := gl2 L0.out
  have Nxsl : w.heap.size < w.heap.size + 1 + 1 := by omega
  have Nrsl : w.heap.size + 1 < w.heap.size + 1 + 1 := by omega
  clear hW hb
  refine (begin_1 Rsl_1.out (L1.out.get (A := A) (c := c) (xs := digs m.natAbs) (by simp)) (dyR_num HR1.out) (Nat.le_trans lx.out (by omega)) (k := 0) rfl).mono ?_
  rintro e w2 ⟨rfl, hb⟩
  have L2 := ls L1 hb
  have Rx_2 := co Rx_1 hb
  have Rr_2 := co Rr_1 hb
  have Rsl_2 := co Rsl_1 hb
  clear hb 
  go_wp2_with fail
  obtain ⟨w3, hW, hb, Rk_3⟩ := new1 w2 (.cells #[.int .i64 0] 66)
  rw [← hW]
  have L3 := ls L2 hb
  have Rx_3 := co Rx_2 hb
  have Rr_3 := co Rr_2 hb
  have Rsl_3 := co Rsl_2 hb
  have Gk := gl0 L2.out
  have Nxk := nl0 Rx_2.out
  have Nrk := nl0 Rr_2.out
  have Nslk := nl0 Rsl_2.out
  clear hW hb
  refine (precision_no _ 0 P _ (row_c Rk_3.out (i := 0) rfl) (.inl HPR.out)).mono ?_
  rintro e w4 ⟨rfl, rfl⟩
  go_wp2_with fail
  refine (fails_any _ 0 false _ (row_c Rk_3.out (i := 0) rfl) rfl).mono ?_
  rintro e w5 ⟨rfl, rfl⟩
  obtain ⟨fx0, zx0, fx1, zx1, fx2, zx2, xx⟩ := ly3 Rx_3.out
  go_wp2_with fail
  refine (bits_b (L3.out.get (A := A) (c := c) (xs := digs m.natAbs) (by simp)) (Nat.le_trans lx.out (by omega)) HZ.out).mono ?_
  rintro e w6 ⟨rfl, rfl⟩
  clear fx0 zx0 fx1 zx1 fx2 zx2 xx
  obtain ⟨fx0, zx0, fx1, zx1, fx2, zx2, xx⟩ := ly3 Rx_3.out
  go_wp2_with fail
  refine (cut_any A c (decide (m < 0)) up false m.natAbs x P p M E _ (L3.out.get (A := A) (c := c) (xs := digs m.natAbs) (by simp)) (Nat.le_trans lx.out (by omega)) (t32_live HT.out L3.out) HP2.out p2 p4 HB.out (by omega) (by omega) HM.out HE.out).mono ?_
  rintro e w7 ⟨A7, c7, rfl, hd, hb⟩
  have L7 := la L3 hb hd
  clear fx0 zx0 fx1 zx1 fx2 zx2 xx
  have Rx_7 := co Rx_3 hb
  have Rr_7 := co Rr_3 hb
  have Rsl_7 := co Rsl_3 hb
  have Rk_7 := co Rk_3 hb
  clear hb hd
  go_wp2_with fail
  refine (answer_d (row_c Rk_7.out (i := 0) rfl) (heap_lt Rk_7.out) (L7.out.get (A := A7) (c := c7) (xs := digs M.natAbs) (by simp)) (Nat.le_trans LM.out (by omega)) HQ.out).mono ?_
  rintro e w8 ⟨A8, c8, rfl, hd, hb⟩
  have L8 := la L7 hb hd
  have Rx_8 := co Rx_7 hb
  have Rr_8 := co Rr_7 hb
  have Rsl_8 := co Rsl_7 hb
  have Rk_8 := co Rk_7 hb
  clear hb hd
  obtain ⟨fr0, zr0, fr1, zr1, fr2, zr2, xr⟩ := ly3 Rr_8.out
  go_wp2
  refine bodyPost_ret (v := .tuple #[.agg #[.bool (decide (M < 0)), .slice A8 (digs M.natAbs).length c8, .int .i64 E], .int .i64 0]) (by simp [results, Tryd.results31, go_sem, fr0, fr1, fr2]) rfl ?_
  
  refine ⟨A8, c8, rfl, ?_, ?_⟩
  · exact (fin3 L8.out Rr_8.out noint3 Gr).get (A := A8) (c := c8) (xs := digs M.natAbs) (by simp)
  · exact (fin3 L8.out Rr_8.out noint3 Gr).1

theorem round_yes {A : Option Addr} {c : Nat} {m x P M E : Int} {up : Bool} {w : World} (h : Dg w A c (digs m.natAbs)) (hl : (digs m.natAbs).length ≤ 10000) (r1 : Rt m x) (hT : T32 w) {p : Nat} (hP : (p : Int) = P) (p2 : 2 ≤ p) (p4 : p ≤ 400) (hs : RdOf (dv m x) p up M E) (hq : inR M E = true) :
    Calls Tryd.prog 31 #[.agg #[.bool (decide (m < 0)), .slice A (digs m.natAbs).length c, .int .i64 x], .int .i64 P, .bool up] w fun e w' => Ye M E 0 w e w' := by
  by_cases hc : bl m ≤ p
  · exact round_s_ A c m x P M E up w h hl r1 hT hP p2 p4 hs hq hc
  · exact round_b_ A c m x P M E up w h hl r1 hT hP p2 p4 hs hq (by omega)
end Go.Proofs.YtaciohjobenipaaDoor
end

section
/-
  dyad.Div.
-/
namespace Go.Proofs.YtaciohjobenipaaDoor
open Go.RowKit
set_option linter.unusedSimpArgs false
set_option linter.unusedVariables false
theorem blen_mul_lo {q n N a b : Nat} (hn : n < 2 ^ b) (hN : 2 ^ (a + b) ≤ N) (hq : N < (q + 1) * n) : 2 ^ a ≤ q := by
  rcases Nat.lt_or_ge q (2 ^ a) with h | h
  · exfalso
    have h1 : (q + 1) * n ≤ 2 ^ a * 2 ^ b := Nat.mul_le_mul h (Nat.le_of_lt hn)
    rw [← Nat.pow_add] at h1
    omega
  · exact h
theorem div_kept {m n x y : Int} {k p : Nat} {up more : Bool} (m0 : m ≠ 0) (n0 : n ≠ 0) (p1 : 1 ≤ p) (hk : p + blen n.natAbs ≤ blen m.natAbs + k) (hm : more = decide (m.natAbs * 2 ^ k % n.natAbs ≠ 0)) :
    p ≤ blen (m.natAbs * 2 ^ k / n.natAbs) ∧ RdOf (dv m x / dv n y) p up (nm (sg (decide (m < 0) != decide (n < 0)) (kept (m.natAbs * 2 ^ k / n.natAbs) p more (up != (decide (m < 0) != decide (n < 0))))))
      (nx (sg (decide (m < 0) != decide (n < 0)) (kept (m.natAbs * 2 ^ k / n.natAbs) p more (up != (decide (m < 0) != decide (n < 0))))) (x - y - k + (blen (m.natAbs * 2 ^ k / n.natAbs) - p : Nat))) := by
  have hna : 0 < n.natAbs := by omega
  have e1 : m.natAbs * 2 ^ k = m.natAbs * 2 ^ k / n.natAbs * n.natAbs + m.natAbs * 2 ^ k % n.natAbs := by
    have := Nat.div_add_mod (m.natAbs * 2 ^ k) n.natAbs
    rw [Nat.mul_comm] at this; exact this.symm
  have e2 : m.natAbs * 2 ^ k % n.natAbs < n.natAbs := Nat.mod_lt _ hna
  have hN : 2 ^ (p - 1 + blen n.natAbs) ≤ m.natAbs * 2 ^ k := by
    have ⟨a, _, c⟩ := blen_bd m.natAbs (by omega)
    refine Nat.le_trans (Nat.pow_le_pow_right (by omega) (show p - 1 + blen n.natAbs ≤ blen m.natAbs - 1 + k by omega)) ?_
    rw [Nat.pow_add]; exact Nat.mul_le_mul_right _ a
  have hb : 0 < dv (n.natAbs : Int) y := dv_pos.2 (by omega)
  have hbn : dv (n.natAbs : Int) y ≠ 0 := by grind
  have ha : dv (m.natAbs : Int) x = dv ((m.natAbs * 2 ^ k : Nat) : Int) (x - k) := by
    have := dv_pow (m.natAbs : Int) k (x - k)
    rw [show x - (k : Int) + k = x by omega] at this
    rw [← this]; congr 1
  have hrb : dv (m.natAbs : Int) x / dv (n.natAbs : Int) y * dv (n.natAbs : Int) y = dv (m.natAbs : Int) x := Rat.div_mul_cancel hbn
  have hsign : dv m x / dv n y = if (decide (m < 0) != decide (n < 0)) = true then -(dv (m.natAbs : Int) x / dv (n.natAbs : Int) y) else dv (m.natAbs : Int) x / dv (n.natAbs : Int) y := by
    have hd0 : dv n y ≠ 0 := fun h => n0 (dv_eq0.1 h)
    have key : ∀ X : Rat, X * dv n y = dv m x → dv m x / dv n y = X := fun X h => by rw [← h]; exact Rat.mul_div_cancel hd0
    apply key
    rw [dv_sign m x, dv_sign n y]
    generalize dv (m.natAbs : Int) x / dv (n.natAbs : Int) y = r at *
    generalize dv (m.natAbs : Int) x = a at *
    generalize dv (n.natAbs : Int) y = b at *
    rcases decide (m < 0) <;> rcases decide (n < 0) <;> simp <;> grind
  generalize m.natAbs * 2 ^ k / n.natAbs = Q at *
  generalize m.natAbs * 2 ^ k % n.natAbs = R at *
  have hQ : 2 ^ (p - 1) ≤ Q := by
    have ⟨_, b, _⟩ := blen_bd n.natAbs (by omega)
    refine blen_mul_lo b hN ?_
    rw [e1, Nat.add_mul, Nat.one_mul]; omega
  have hpb : p ≤ blen Q := by
    have h1 := blen_uniq (n := 2 ^ (p - 1)) (k := p - 1) (Nat.le_refl _) (Nat.pow_lt_pow_right (by omega) (by omega))
    have := blen_mono hQ
    omega
  refine ⟨hpb, ?_⟩
  rw [hsign]
  have hQb : dv (Q : Int) (x - y - k) * dv (n.natAbs : Int) y = dv ((Q * n.natAbs : Nat) : Int) (x - k) := by
    rw [dv_mul]; congr 1; omega
  have hQb1 : dv (Q + 1 : Int) (x - y - k) * dv (n.natAbs : Int) y = dv (((Q + 1) * n.natAbs : Nat) : Int) (x - k) := by
    rw [dv_mul]; congr 1; omega
  refine rd_kept hpb p1 ?_ ?_ ?_
  · refine Rat.le_of_mul_le_mul_right ?_ hb
    rw [hrb, hQb, ha, dv_le]
    exact_mod_cast (by omega : Q * n.natAbs ≤ m.natAbs * 2 ^ k)
  · refine Rat.lt_of_mul_lt_mul_right ?_ (Rat.le_of_lt hb)
    rw [hrb, hQb1, ha, dv_lt]
    have : m.natAbs * 2 ^ k < (Q + 1) * n.natAbs := by rw [e1, Nat.add_mul, Nat.one_mul]; omega
    exact_mod_cast this
  · rw [hm, decide_eq_decide]
    have h3 : dv (m.natAbs : Int) x / dv (n.natAbs : Int) y = dv (Q : Int) (x - y - k) ↔ R = 0 := by
      constructor
      · intro h
        rw [h, hQb, ha] at hrb
        have := dv_inj hrb
        have h4 : Q * n.natAbs = m.natAbs * 2 ^ k := by exact_mod_cast this
        omega
      · intro h
        have h4 : Q * n.natAbs = m.natAbs * 2 ^ k := by omega
        rw [ha, ← h4, ← hQb]
        exact Rat.mul_div_cancel hbn
    exact (not_congr h3).symm
theorem divmod_d {A B : Option Addr} {c d N n : Nat} {w : World} (h : Dg w A c (digs N)) (h' : Dg w B d (digs n)) (hl : (digs N).length ≤ 1000000) (hl' : (digs n).length ≤ 1000000) (n0 : n ≠ 0) :
    Calls Tryd.prog 71 #[.slice A (digs N).length c, .slice B (digs n).length d] w fun e w' => ∃ A' c' B' d', e = .returned (.tuple #[.slice A' (digs (N / n)).length c', .slice B' (digs (N % n)).length d', .bool true]) ∧ Dg w' A' c' (digs (N / n)) ∧ Dg w' B' d' (digs (N % n)) ∧ Below w.heap.size w w' := by
  have := divmod_any A B c d (digs N) (digs n) w h h' hl hl' (by rw [val_digs]; exact n0)
  rw [val_digs, val_digs] at this; exact this
theorem lift_n {A : Option Addr} {c q N : Nat} {k : Int} {kn : Nat} {w : World} (h : Dg w A c (digs q)) (hl : (digs q).length ≤ 500000) (hk : k = (kn : Int)) (h1 : kn ≤ 1000000) (hN : q * 2 ^ kn = N) :
    Calls Tryd.prog 72 #[.slice A (digs q).length c, .int .i64 k] w fun e w' => ∃ A' c', e = .returned (.slice A' (digs N).length c') ∧ Dg w' A' c' (digs N) ∧ Below w.heap.size w w' := by
  subst hk
  have := lift_any A c (digs q) kn w h hl h1
  rw [val_digs, hN] at this
  exact this
theorem up_len {q k : Nat} (hl : (digs q).length ≤ 10000) (hk : k ≤ 330000) : (digs (q * 2 ^ k)).length ≤ 21000 := by
  have h1 := bl_bd (m := (q : Int)) (k := 10000) (by rw [Int.natAbs_natCast]; exact hl)
  have h2 := len_bl ((q * 2 ^ k : Nat) : Int)
  rw [Int.natAbs_natCast] at h1 h2
  unfold bl at h2
  rw [Int.natAbs_natCast] at h2
  by_cases h0 : q = 0
  · subst h0; rw [Nat.zero_mul] at h2 ⊢; rw [digs_zero]; simp
  · rw [blen_up h0] at h2; omega

set_option maxHeartbeats 4000000 in
set_option maxRecDepth 100000 in
theorem div_z_ (A B : Option Addr) (c d : Nat) (m n x y : Int) (P M E : Int) (up : Bool) (w : World) (h : Dg w A c (digs m.natAbs)) (h' : Dg w B d (digs n.natAbs)) (hl : (digs m.natAbs).length ≤ 10000) (hl' : (digs n.natAbs).length ≤ 10000) (r1 : Rt m x) (r2 : Rt n y) (hT : T32 w) {p : Nat} (hP : (p : Int) = P) (p2 : 2 ≤ p) (p4 : p ≤ 400) (n0 : n ≠ 0) (hs : RdOf (dv m x / dv n y) p up M E) (hq : inR M E = true) (m0 : m = 0):
    Calls Tryd.prog 33 #[.agg #[.bool (decide (m < 0)), .slice A (digs m.natAbs).length c, .int .i64 x], .agg #[.bool (decide (n < 0)), .slice B (digs n.natAbs).length d, .int .i64 y], .int .i64 P, .bool up] w fun e w' => Ye M E 0 w e w' := by
  have HR1 := Lib.hid r1
  have HR2 := Lib.hid r2
  have lx := Lib.hid hl
  have ly := Lib.hid hl'
  have HQ := Lib.hid hq
  have x0 := r1.2.1
  have x1 := r1.2.2
  have y0 := r2.2.1
  have y1 := r2.2.2
  have LM := Lib.hid (inr_len hq)
  have HPR := Lib.hid (precB_in (P := P) (by omega) (by omega))
  have D2 := Lib.hid (show decide (n = 0) = false by simp [n0])
  have D1 := Lib.hid (show decide (m = 0) = true by simp [m0])
  obtain ⟨rfl, rfl⟩ := RdOf.uniq (M := m) (E := x) ⟨r1.1, .inl ⟨by rw [m0, dv_zero, Rat.div_def, Rat.zero_mul], m0⟩⟩ hs
  have HT := Lib.hid hT
  clear hT
  have L0 := Lib.hid (((live_start w).add h).add h')
  clear h h' hl hl' r1 r2 hs hq hP n0 m0
  go_enter Tryd.func33, Tryd.ntmps33
  go_wp2_with fail
  obtain ⟨v1, hW, hb, Rx_1, Ry_1, Rr_1, Rsl_1⟩ := new4 w (.cells #[.bool (decide (m < 0)), .slice A (digs m.natAbs).length c, .int .i64 x] 26) (.cells #[.bool (decide (n < 0)), .slice B (digs n.natAbs).length d, .int .i64 y] 26) (.cells #[.bool false, .slice none 0 0, .int .i64 0] 26) (.cells #[.bool (decide (m < 0)), .slice A (digs m.natAbs).length c, .int .i64 x, .bool (decide (n < 0)), .slice B (digs n.natAbs).length d, .int .i64 y] 26)
  rw [← hW]
  have L1 := ls L0 hb
  have Gx := gl0 L0.out
  have Gy := gl1 L0.out
  have Nxy : w.heap.size < w.heap.size + 1 := by omega
  have Gr := gl2 L0.out
  have Nxr : w.heap.size < w.heap.size + 1 + 1 := by omega
  have Nyr : w.heap.size + 1 < w.heap.size + 1 + 1 := by omega
  have Gsl := gl3 L0.out
  have Nxsl : w.heap.size < w.heap.size + 1 + 1 + 1 := by omega
  have Nysl : w.heap.size + 1 < w.heap.size + 1 + 1 + 1 := by omega
  have Nrsl : w.heap.size + 1 + 1 < w.heap.size + 1 + 1 + 1 := by omega
  clear hW hb
  refine (begin_2 Rsl_1.out (L1.out.get (A := A) (c := c) (xs := digs m.natAbs) (by simp)) (L1.out.get (A := B) (c := d) (xs := digs n.natAbs) (by simp)) (dyR_num HR1.out) (dyR_num HR2.out) (Nat.le_trans lx.out (by omega)) (Nat.le_trans ly.out (by omega)) (k := 0) rfl).mono ?_
  rintro e w2 ⟨rfl, hb⟩
  have L2 := ls L1 hb
  have Rx_2 := co Rx_1 hb
  have Ry_2 := co Ry_1 hb
  have Rr_2 := co Rr_1 hb
  have Rsl_2 := co Rsl_1 hb
  clear hb 
  go_wp2_with fail
  obtain ⟨w3, hW, hb, Rk_3⟩ := new1 w2 (.cells #[.int .i64 0] 66)
  rw [← hW]
  have L3 := ls L2 hb
  have Rx_3 := co Rx_2 hb
  have Ry_3 := co Ry_2 hb
  have Rr_3 := co Rr_2 hb
  have Rsl_3 := co Rsl_2 hb
  have Gk := gl0 L2.out
  have Nxk := nl0 Rx_2.out
  have Nyk := nl0 Ry_2.out
  have Nrk := nl0 Rr_2.out
  have Nslk := nl0 Rsl_2.out
  clear hW hb
  refine (precision_no _ 0 P _ (row_c Rk_3.out (i := 0) rfl) (.inl HPR.out)).mono ?_
  rintro e w4 ⟨rfl, rfl⟩
  obtain ⟨fy0, zy0, fy1, zy1, fy2, zy2, xy⟩ := ly3 Ry_3.out
  go_wp2_with fail
  refine (isz_d (x := y) D2.out).mono ?_
  rintro e w5 ⟨rfl, hb⟩
  have L5 := ls L3 hb
  clear fy0 zy0 fy1 zy1 fy2 zy2 xy
  have Rx_5 := co Rx_3 hb
  have Ry_5 := co Ry_3 hb
  have Rr_5 := co Rr_3 hb
  have Rsl_5 := co Rsl_3 hb
  have Rk_5 := co Rk_3 hb
  clear hb 
  go_wp2_with fail
  refine (tell_no _ 0 3 false _ (row_c Rk_5.out (i := 0) rfl) (.inl rfl)).mono ?_
  rintro e w6 ⟨rfl, rfl⟩
  go_wp2_with fail
  refine (fails_any _ 0 false _ (row_c Rk_5.out (i := 0) rfl) rfl).mono ?_
  rintro e w7 ⟨rfl, rfl⟩
  obtain ⟨fx0, zx0, fx1, zx1, fx2, zx2, xx⟩ := ly3 Rx_5.out
  go_wp2_with fail
  refine (isz_d (x := x) D1.out).mono ?_
  rintro e w8 ⟨rfl, hb⟩
  have L8 := ls L5 hb
  clear fx0 zx0 fx1 zx1 fx2 zx2 xx
  have Rx_8 := co Rx_5 hb
  have Ry_8 := co Ry_5 hb
  have Rr_8 := co Rr_5 hb
  have Rsl_8 := co Rsl_5 hb
  have Rk_8 := co Rk_5 hb
  clear hb 
  obtain ⟨fx0, zx0, fx1, zx1, fx2, zx2, xx⟩ := ly3 Rx_8.out
  go_wp2_with fail
  refine (answer_d (row_c Rk_8.out (i := 0) rfl) (heap_lt Rk_8.out) (L8.out.get (A := A) (c := c) (xs := digs m.natAbs) (by simp)) (Nat.le_trans LM.out (by omega)) HQ.out).mono ?_
  rintro e w9 ⟨A9, c9, rfl, hd, hb⟩
  have L9 := la L8 hb hd
  clear fx0 zx0 fx1 zx1 fx2 zx2 xx
  have Rx_9 := co Rx_8 hb
  have Ry_9 := co Ry_8 hb
  have Rr_9 := co Rr_8 hb
  have Rsl_9 := co Rsl_8 hb
  have Rk_9 := co Rk_8 hb
  clear hb hd
  obtain ⟨fr0, zr0, fr1, zr1, fr2, zr2, xr⟩ := ly3 Rr_9.out
  go_wp2
  refine bodyPost_ret (v := .tuple #[.agg #[.bool (decide (m < 0)), .slice A9 (digs m.natAbs).length c9, .int .i64 x], .int .i64 0]) (by simp [results, Tryd.results33, go_sem, fr0, fr1, fr2]) rfl ?_
  
  refine ⟨A9, c9, rfl, ?_, ?_⟩
  · exact (fin3 L9.out Rr_9.out noint3 Gr).get (A := A9) (c := c9) (xs := digs m.natAbs) (by simp)
  · exact (fin3 L9.out Rr_9.out noint3 Gr).1

set_option maxHeartbeats 4000000 in
set_option maxRecDepth 100000 in
theorem div_b_ (A B : Option Addr) (c d : Nat) (m n x y : Int) (P M E : Int) (up : Bool) (w : World) (h : Dg w A c (digs m.natAbs)) (h' : Dg w B d (digs n.natAbs)) (hl : (digs m.natAbs).length ≤ 10000) (hl' : (digs n.natAbs).length ≤ 10000) (r1 : Rt m x) (r2 : Rt n y) (hT : T32 w) {p : Nat} (hP : (p : Int) = P) (p2 : 2 ≤ p) (p4 : p ≤ 400) (n0 : n ≠ 0) (hs : RdOf (dv m x / dv n y) p up M E) (hq : inR M E = true) (m0 : m ≠ 0):
    Calls Tryd.prog 33 #[.agg #[.bool (decide (m < 0)), .slice A (digs m.natAbs).length c, .int .i64 x], .agg #[.bool (decide (n < 0)), .slice B (digs n.natAbs).length d, .int .i64 y], .int .i64 P, .bool up] w fun e w' => Ye M E 0 w e w' := by
  have HR1 := Lib.hid r1
  have HR2 := Lib.hid r2
  have lx := Lib.hid hl
  have ly := Lib.hid hl'
  have HQ := Lib.hid hq
  have x0 := r1.2.1
  have x1 := r1.2.2
  have y0 := r2.2.1
  have y1 := r2.2.2
  have LM := Lib.hid (inr_len hq)
  have HPR := Lib.hid (precB_in (P := P) (by omega) (by omega))
  have D2 := Lib.hid (show decide (n = 0) = false by simp [n0])
  have D1 := Lib.hid (show decide (m = 0) = false by simp [m0])
  have b1 := bl_bd hl
  have b2 := bl_bd hl'
  obtain ⟨z1, hz1⟩ : ∃ z : Int, (blen m.natAbs : Int) = z := ⟨_, rfl⟩
  obtain ⟨z2, hz2⟩ : ∃ z : Int, (blen n.natAbs : Int) = z := ⟨_, rfl⟩
  obtain ⟨kn, hkn⟩ : ∃ k : Nat, k = (max 0 (P + z2 - z1)).toNat := ⟨_, rfl⟩
  obtain ⟨k, hk⟩ : ∃ k : Int, max 0 (P + z2 - z1) = k := ⟨_, rfl⟩
  have hkk : k = (kn : Int) := by omega
  have hkb : kn ≤ 330000 := by omega
  have hkp : p + blen n.natAbs ≤ blen m.natAbs + kn := by omega
  have hlN := up_len (q := m.natAbs) hl hkb
  obtain ⟨t, ht⟩ : ∃ t, (decide (m < 0) != decide (n < 0)) = t := ⟨_, rfl⟩
  obtain ⟨mo, hmo⟩ : ∃ t, decide (m.natAbs * 2 ^ kn % n.natAbs ≠ 0) = t := ⟨_, rfl⟩
  have hkept := div_kept (m := m) (n := n) (x := x) (y := y) (k := kn) (p := p) (up := up) (more := mo) m0 n0 (by omega) hkp hmo.symm
  rw [ht] at hkept
  have hu := RdOf.uniq hkept.2 hs
  have HB := Lib.hid hkept.1
  obtain ⟨N, hN⟩ : ∃ N, m.natAbs * 2 ^ kn = N := ⟨_, rfl⟩
  rw [hN] at hlN hu HB hmo
  have hlQ := digs_len_mono _ _ (Nat.div_le_self N n.natAbs)
  have HMO := Lib.hid (show decide (0 < (digs (N % n.natAbs)).length) = mo by rw [← hmo, decide_eq_decide]; have := @digs_nil (N % n.natAbs); omega)
  obtain ⟨Q, hQ⟩ : ∃ Q, N / n.natAbs = Q := ⟨_, rfl⟩
  obtain ⟨R, hR⟩ : ∃ R, N % n.natAbs = R := ⟨_, rfl⟩
  rw [hQ] at hu HB hlQ
  rw [hR] at HMO
  have DM := Lib.hid (fun (A B : Option Addr) (c d : Nat) W (h : Dg W A c (digs N)) (h' : Dg W B d (digs n.natAbs)) => divmod_d h h' (by omega) (by omega) (by omega))
  rw [hQ, hR] at DM
  have HM := Lib.hid hu.1
  have HE := Lib.hid (show nx (sg t (kept Q p mo (up != t))) (x - y - k + (blen Q - p : Nat)) = E by rw [hkk]; exact hu.2)
  have HN := Lib.hid hN
  have HKK := Lib.hid hkk
  have HKB := Lib.hid (show kn ≤ 1000000 by omega)
  have HP2 := Lib.hid hP
  have HZ1 := Lib.hid hz1
  have HZ2 := Lib.hid hz2
  have LQ := Lib.hid (show (digs Q).length ≤ 30000 by omega)
  have LN := Lib.hid hlN
  obtain ⟨s1, hs1⟩ : ∃ s, P + z2 = s := ⟨_, rfl⟩
  obtain ⟨s2, hs2⟩ : ∃ s, s1 - z1 = s := ⟨_, rfl⟩
  have ws1 : IntKind.i64.wrap (P + z2) = s1 := by rw [IntWalk.i64_in _ (by omega)]; exact hs1
  have ws2 : IntKind.i64.wrap (s1 - z1) = s2 := by rw [IntWalk.i64_in _ (by omega)]; exact hs2
  have hmax : max 0 s2 = k := by rw [← hk, ← hs2, ← hs1]
  have k0 : 0 ≤ k := by omega
  have k9 : k ≤ 330000 := by omega
  have HT2 := Lib.hid ht
  have HT := Lib.hid hT
  clear hT
  have L0 := Lib.hid (((live_start w).add h).add h')
  clear h h' hl hl' r1 r2 hs hq hP n0 m0 hz1 hz2 hkn hk hkk hkb hkp hlN ht hmo hkept hu hN hlQ hQ hR hs1 hs2 b1 b2
  go_enter Tryd.func33, Tryd.ntmps33
  go_wp2_with fail
  obtain ⟨v1, hW, hb, Rx_1, Ry_1, Rr_1, Rsl_1⟩ := new4 w (.cells #[.bool (decide (m < 0)), .slice A (digs m.natAbs).length c, .int .i64 x] 26) (.cells #[.bool (decide (n < 0)), .slice B (digs n.natAbs).length d, .int .i64 y] 26) (.cells #[.bool false, .slice none 0 0, .int .i64 0] 26) (.cells #[.bool (decide (m < 0)), .slice A (digs m.natAbs).length c, .int .i64 x, .bool (decide (n < 0)), .slice B (digs n.natAbs).length d, .int .i64 y] 26)
  rw [← hW]
  have L1 := ls L0 hb
  have Gx := gl0 L0.out
  have Gy := gl1 L0.out
  have Nxy : w.heap.size < w.heap.size + 1 := by omega
  have Gr := gl2 L0.out
  have Nxr : w.heap.size < w.heap.size + 1 + 1 := by omega
  have Nyr : w.heap.size + 1 < w.heap.size + 1 + 1 := by omega
  have Gsl := gl3 L0.out
  have Nxsl : w.heap.size < w.heap.size + 1 + 1 + 1 := by omega
  have Nysl : w.heap.size + 1 < w.heap.size + 1 + 1 + 1 := by omega
  have Nrsl : w.heap.size + 1 + 1 < w.heap.size + 1 + 1 + 1 := by omega
  clear hW hb
  refine (begin_2 Rsl_1.out (L1.out.get (A := A) (c := c) (xs := digs m.natAbs) (by simp)) (L1.out.get (A := B) (c := d) (xs := digs n.natAbs) (by simp)) (dyR_num HR1.out) (dyR_num HR2.out) (Nat.le_trans lx.out (by omega)) (Nat.le_trans ly.out (by omega)) (k := 0) rfl).mono ?_
  rintro e w2 ⟨rfl, hb⟩
  have L2 := ls L1 hb
  have Rx_2 := co Rx_1 hb
  have Ry_2 := co Ry_1 hb
  have Rr_2 := co Rr_1 hb
  have Rsl_2 := co Rsl_1 hb
  clear hb 
  go_wp2_with fail
  obtain ⟨w3, hW, hb, Rk_3⟩ := new1 w2 (.cells #[.int .i64 0] 66)
  rw [← hW]
  have L3 := ls L2 hb
  have Rx_3 := co Rx_2 hb
  have Ry_3 := co Ry_2 hb
  have Rr_3 := co Rr_2 hb
  have Rsl_3 := co Rsl_2 hb
  have Gk := gl0 L2.out
  have Nxk := nl0 Rx_2.out
  have Nyk := nl0 Ry_2.out
  have Nrk := nl0 Rr_2.out
  have Nslk := nl0 Rsl_2.out
  clear hW hb
  refine (precision_no _ 0 P _ (row_c Rk_3.out (i := 0) rfl) (.inl HPR.out)).mono ?_
  rintro e w4 ⟨rfl, rfl⟩
  obtain ⟨fy0, zy0, fy1, zy1, fy2, zy2, xy⟩ := ly3 Ry_3.out
  go_wp2_with fail
  refine (isz_d (x := y) D2.out).mono ?_
  rintro e w5 ⟨rfl, hb⟩
  have L5 := ls L3 hb
  clear fy0 zy0 fy1 zy1 fy2 zy2 xy
  have Rx_5 := co Rx_3 hb
  have Ry_5 := co Ry_3 hb
  have Rr_5 := co Rr_3 hb
  have Rsl_5 := co Rsl_3 hb
  have Rk_5 := co Rk_3 hb
  clear hb 
  go_wp2_with fail
  refine (tell_no _ 0 3 false _ (row_c Rk_5.out (i := 0) rfl) (.inl rfl)).mono ?_
  rintro e w6 ⟨rfl, rfl⟩
  go_wp2_with fail
  refine (fails_any _ 0 false _ (row_c Rk_5.out (i := 0) rfl) rfl).mono ?_
  rintro e w7 ⟨rfl, rfl⟩
  obtain ⟨fx0, zx0, fx1, zx1, fx2, zx2, xx⟩ := ly3 Rx_5.out
  go_wp2_with fail
  refine (isz_d (x := x) D1.out).mono ?_
  rintro e w8 ⟨rfl, hb⟩
  have L8 := ls L5 hb
  clear fx0 zx0 fx1 zx1 fx2 zx2 xx
  have Rx_8 := co Rx_5 hb
  have Ry_8 := co Ry_5 hb
  have Rr_8 := co Rr_5 hb
  have Rsl_8 := co Rsl_5 hb
  have Rk_8 := co Rk_5 hb
  clear hb 
  obtain ⟨fx0, zx0, fx1, zx1, fx2, zx2, xx⟩ := ly3 Rx_8.out
  obtain ⟨fy0, zy0, fy1, zy1, fy2, zy2, xy⟩ := ly3 Ry_8.out
  go_wp2_with fail
  clear fx0 zx0 fx1 zx1 fx2 zx2 xx fy0 zy0 fy1 zy1 fy2 zy2 xy
  obtain ⟨fx0, zx0, fx1, zx1, fx2, zx2, xx⟩ := ly3 Rx_8.out
  obtain ⟨fy0, zy0, fy1, zy1, fy2, zy2, xy⟩ := ly3 Ry_8.out
  have KD := Lib.hid (bd0 w8)
  have LD := ls L8 KD.out
  go_region_held3 (fun w' => ∀ b o, b < w8.heap.size → w'.cell? ⟨b, o, none⟩ = w8.cell? ⟨b, o, none⟩)
    (first | with_reducible exact (bcell KD.out).1)
    (first
      | (go_at_call_of 48 B; (with_reducible refine (bits_b (LD.out.get (A := B) (c := d) (xs := digs n.natAbs) (by simp)) (Nat.le_trans ly.out (by omega)) HZ2.out).mono ?_); rintro e w10 ⟨rfl, rfl⟩)
      | (go_at_call_of 48 A; (with_reducible refine (bits_b (LD.out.get (A := A) (c := c) (xs := digs m.natAbs) (by simp)) (Nat.le_trans lx.out (by omega)) HZ1.out).mono ?_); rintro e w11 ⟨rfl, rfl⟩))
  rename_i hHeld
  clear hHeld
  clear fx0 zx0 fx1 zx1 fx2 zx2 xx fy0 zy0 fy1 zy1 fy2 zy2 xy
  clear KD LD
  obtain ⟨w12, hW⟩ : ∃ W : World, W = w8.drew := ⟨_, rfl⟩
  rw [← hW]
  have hb : Below w8.heap.size w8 w12 := by rw [hW]; exact bd0 _
  have L12 := ls L8 hb
  have Rx_12 := co Rx_8 hb
  have Ry_12 := co Ry_8 hb
  have Rr_12 := co Rr_8 hb
  have Rsl_12 := co Rsl_8 hb
  have Rk_12 := co Rk_8 hb
  clear hW hb
  clear ws1 ws2 hmax
  obtain ⟨fx0, zx0, fx1, zx1, fx2, zx2, xx⟩ := ly3 Rx_12.out
  obtain ⟨fy0, zy0, fy1, zy1, fy2, zy2, xy⟩ := ly3 Ry_12.out
  go_wp2_with fail
  clear fx0 zx0 fx1 zx1 fx2 zx2 xx fy0 zy0 fy1 zy1 fy2 zy2 xy
  obtain ⟨fx0, zx0, fx1, zx1, fx2, zx2, xx⟩ := ly3 Rx_12.out
  obtain ⟨fy0, zy0, fy1, zy1, fy2, zy2, xy⟩ := ly3 Ry_12.out
  have KD := Lib.hid (bd0 w12)
  have LD := ls L12 KD.out
  go_region_held3 (fun w' => ∀ b o, b < w12.heap.size → w'.cell? ⟨b, o, none⟩ = w12.cell? ⟨b, o, none⟩)
    (first | with_reducible exact (bcell KD.out).1 | with_reducible exact (bcell K14.out).1 | with_reducible exact (bcell K15.out).1)
    (first
      | (go_at_call 72; (with_reducible refine (lift_n (N := N) (LD.out.get (A := A) (c := c) (xs := digs m.natAbs) (by simp)) (Nat.le_trans lx.out (by omega)) HKK.out HKB.out HN.out).mono ?_); rintro e w14 ⟨A14, c14, rfl, hd, hb⟩; (have K14 := bt KD hb); (have L14 := la LD hb hd); clear hb hd)
      | (go_at_call 71; (with_reducible refine (DM.out _ _ _ _ _ (L14.out.get (A := A14) (c := c14) (xs := digs N) (by simp)) (L14.out.get (A := B) (c := d) (xs := digs n.natAbs) (by simp))).mono ?_); rintro e w15 ⟨A15, c15, B15, d15, rfl, hd, hd', hb⟩; (have K15 := bt K14 hb); (have L15 := Lib.hid (((L14.out.step hb).add hd).add hd')); clear hb hd hd'))
  rename_i hHeld
  clear hHeld
  clear fx0 zx0 fx1 zx1 fx2 zx2 xx fy0 zy0 fy1 zy1 fy2 zy2 xy
  have Rx_15 := co Rx_12 K15.out
  have Ry_15 := co Ry_12 K15.out
  have Rr_15 := co Rr_12 K15.out
  have Rsl_15 := co Rsl_12 K15.out
  have Rk_15 := co Rk_12 K15.out
  clear KD LD
  have HT3 : (!(decide (m < 0) == decide (n < 0))) = t := HT2.out
  have HMO2 := HMO.out
  obtain ⟨fx0, zx0, fx1, zx1, fx2, zx2, xx⟩ := ly3 Rx_15.out
  obtain ⟨fy0, zy0, fy1, zy1, fy2, zy2, xy⟩ := ly3 Ry_15.out
  go_wp2_with fail
  obtain ⟨w16, hW, hb, Rq_16⟩ := new1 w15 (.cells #[.bool t, .slice A15 (digs Q).length c15, .int .i64 (x - y - k)] 26)
  rw [← hW]
  have L16 := ls L15 hb
  have Rx_16 := co Rx_15 hb
  have Ry_16 := co Ry_15 hb
  have Rr_16 := co Rr_15 hb
  have Rsl_16 := co Rsl_15 hb
  have Rk_16 := co Rk_15 hb
  have Gq := gl0 L15.out
  have Nxq := nl0 Rx_15.out
  have Nyq := nl0 Ry_15.out
  have Nrq := nl0 Rr_15.out
  have Nslq := nl0 Rsl_15.out
  have Nkq := nl0 Rk_15.out
  clear hW hb
  clear fx0 zx0 fx1 zx1 fx2 zx2 xx fy0 zy0 fy1 zy1 fy2 zy2 xy
  refine (cut_any A15 c15 t up mo Q (x - y - k) P p M E _ (L16.out.get (A := A15) (c := c15) (xs := digs Q) (by simp)) LQ.out (t32_live HT.out L16.out) HP2.out p2 p4 HB.out (by omega) (by omega) HM.out HE.out).mono ?_
  rintro e w17 ⟨A17, c17, rfl, hd, hb⟩
  have L17 := la L16 hb hd
  have Rx_17 := co Rx_16 hb
  have Ry_17 := co Ry_16 hb
  have Rr_17 := co Rr_16 hb
  have Rsl_17 := co Rsl_16 hb
  have Rk_17 := co Rk_16 hb
  have Rq_17 := co Rq_16 hb
  clear hb hd
  clear HT3 HMO2
  go_wp2_with fail
  refine (answer_d (row_c Rk_17.out (i := 0) rfl) (heap_lt Rk_17.out) (L17.out.get (A := A17) (c := c17) (xs := digs M.natAbs) (by simp)) (Nat.le_trans LM.out (by omega)) HQ.out).mono ?_
  rintro e w18 ⟨A18, c18, rfl, hd, hb⟩
  have L18 := la L17 hb hd
  have Rx_18 := co Rx_17 hb
  have Ry_18 := co Ry_17 hb
  have Rr_18 := co Rr_17 hb
  have Rsl_18 := co Rsl_17 hb
  have Rk_18 := co Rk_17 hb
  have Rq_18 := co Rq_17 hb
  clear hb hd
  obtain ⟨fr0, zr0, fr1, zr1, fr2, zr2, xr⟩ := ly3 Rr_18.out
  go_wp2
  refine bodyPost_ret (v := .tuple #[.agg #[.bool (decide (M < 0)), .slice A18 (digs M.natAbs).length c18, .int .i64 E], .int .i64 0]) (by simp [results, Tryd.results33, go_sem, fr0, fr1, fr2]) rfl ?_
  
  refine ⟨A18, c18, rfl, ?_, ?_⟩
  · exact (fin3 L18.out Rr_18.out noint3 Gr).get (A := A18) (c := c18) (xs := digs M.natAbs) (by simp)
  · exact (fin3 L18.out Rr_18.out noint3 Gr).1
end Go.Proofs.YtaciohjobenipaaDoor
end

section
/-
  quo.Gcd.
-/
namespace Go.Proofs.YtaciohjobenipaaDoor
open Go.RowKit
theorem gcd_step (x g : Nat) : Nat.gcd g (x % g) = Nat.gcd x g := by
  rw [Nat.gcd_comm x g, Nat.gcd_rec g x, Nat.gcd_comm g]
section
variable {w0 w w' : World} {L : List (Option Addr × Nat × List Nat)} {A B : Option Addr} {c d n m : Nat} {xs ys : List Nat} {x y : Nat}
end
end Go.Proofs.YtaciohjobenipaaDoor
end

section
/-
  Plain arithmetic of the root.
-/
namespace Go.Proofs.YtaciohjobenipaaDoor
/-- The greatest number whose square is not above n. -/
def rt (n : Nat) : Nat := if h : n = 0 then 0 else if (2 * rt (n / 4) + 1) * (2 * rt (n / 4) + 1) ≤ n then 2 * rt (n / 4) + 1 else 2 * rt (n / 4)
termination_by n
decreasing_by all_goals omega
theorem sq_lt {a b : Nat} (h : a * a < b * b) : a < b := by
  rcases Nat.lt_or_ge a b with h1 | h1
  · exact h1
  · have := Nat.mul_le_mul h1 h1; omega
theorem rt_step (n : Nat) (h : n ≠ 0) : rt n = if (2 * rt (n / 4) + 1) * (2 * rt (n / 4) + 1) ≤ n then 2 * rt (n / 4) + 1 else 2 * rt (n / 4) := by
  rw [rt]; simp [h]
theorem rt_spec (n : Nat) : rt n * rt n ≤ n ∧ n < (rt n + 1) * (rt n + 1) := by
  induction n using Nat.strongRecOn with
  | ind n ih =>
    by_cases h : n = 0
    · subst h; rw [rt]; simp
    · obtain ⟨h1, h2⟩ := ih (n / 4) (by omega)
      rw [rt_step n h]
      generalize rt (n / 4) = r at *
      have e1 : (2 * r) * (2 * r) = 4 * (r * r) := by rw [Nat.mul_mul_mul_comm]
      have e2 : (2 * r + 1 + 1) * (2 * r + 1 + 1) = 4 * ((r + 1) * (r + 1)) := by rw [show 2 * r + 1 + 1 = 2 * (r + 1) by omega, Nat.mul_mul_mul_comm]
      split
      · exact ⟨by assumption, by rw [e2]; omega⟩
      · exact ⟨by rw [e1]; omega, by omega⟩
theorem rt_is {n s : Nat} (h1 : s * s ≤ n) (h2 : n < (s + 1) * (s + 1)) : s = rt n := by
  obtain ⟨h3, h4⟩ := rt_spec n
  have := sq_lt (Nat.lt_of_le_of_lt h1 h4)
  have := sq_lt (Nat.lt_of_le_of_lt h3 h2)
  omega
theorem rt_le {n s : Nat} (h : n < (s + 1) * (s + 1)) : rt n ≤ s := by
  have := sq_lt (Nat.lt_of_le_of_lt (rt_spec n).1 h); omega
theorem four_le (a b : Nat) : 4 * (a * b) ≤ (a + b) * (a + b) := by
  rcases Nat.le_total a b with h | h
  · obtain ⟨c, rfl⟩ := Nat.exists_eq_add_of_le h
    have : (a + (a + c)) * (a + (a + c)) = 4 * (a * (a + c)) + c * c := by
      simp only [Nat.mul_add, Nat.add_mul, Nat.mul_comm c a]; omega
    omega
  · obtain ⟨c, rfl⟩ := Nat.exists_eq_add_of_le h
    have : (b + c + b) * (b + c + b) = 4 * ((b + c) * b) + c * c := by
      simp only [Nat.mul_add, Nat.add_mul, Nat.mul_comm c b]; omega
    omega
/-- Newton's step stays above the root. -/
theorem newton {n s t : Nat} (hs : 0 < s) (ht : t = (s + n / s) / 2) : n < (t + 1) * (t + 1) := by
  have h1 := Nat.div_add_mod n s
  have h2 := Nat.mod_lt n hs
  have h3 := four_le s (n / s + 1)
  have h4 : s * (n / s + 1) = s * (n / s) + s := by rw [Nat.mul_add, Nat.mul_one]
  generalize n / s = q at *
  have h5 : s + (q + 1) ≤ 2 * (t + 1) := by omega
  have h6 := Nat.mul_le_mul h5 h5
  rw [Nat.mul_mul_mul_comm] at h6
  omega
theorem newton_end {n s t : Nat} (hs : 0 < s) (ht : t = (s + n / s) / 2) (h : s ≤ t) : s * s ≤ n := by
  have h1 : s ≤ n / s := by omega
  exact (Nat.le_div_iff_mul_le hs).1 h1
theorem rt_pos {n : Nat} (h : n ≠ 0) : 0 < rt n := by
  rcases Nat.eq_zero_or_pos (rt n) with h0 | h0
  · have := (rt_spec n).2; rw [h0] at this; omega
  · exact h0
end Go.Proofs.YtaciohjobenipaaDoor
end

section
/-
  quo.root, above, Sqrt.
-/
namespace Go.Proofs.YtaciohjobenipaaDoor
open Go.RowKit
/-- What above answers. -/
def Abv (w : World) (x : Nat) (e : Ending) (w' : World) : Prop := ∃ A' c' u, e = .returned (.slice A' (digs u).length c') ∧ Dg w' A' c' (digs u) ∧ Below w.heap.size w w' ∧ x < (u + 1) * (u + 1) ∧ 0 < u ∧ (digs u).length ≤ 600000
set_option maxHeartbeats 4000000 in
set_option maxRecDepth 100000 in
theorem root_of (A : Option Addr) (c : Nat) (xs : List Nat) (w : World) (h : Dg w A c xs) (hl : xs.length ≤ 500000) (ex : digs (val xs) = xs)
    (ha : 0 < xs.length → Calls Tryd.prog 124 #[.slice A xs.length c] w fun e w' => Abv w (val xs) e w') :
    Calls Tryd.prog 108 #[.slice A xs.length c] w fun e w' => ∃ A' c', e = .returned (.slice A' (digs (rt (val xs))).length c') ∧ Dg w' A' c' (digs (rt (val xs))) ∧ Below w.heap.size w w' := by
  rcases Nat.eq_zero_or_pos xs.length with h0 | h0
  · obtain rfl : xs = [] := List.eq_nil_of_length_eq_zero h0
    have e0 : rt (val []) = 0 := by simp only [val]; rw [rt]; simp
    clear ha ex h
    go_enter Tryd.func108, Tryd.ntmps108
    go_wp2
    go_ret
    rw [e0, digs_zero]
    exact ⟨none, 0, rfl, Dg.nil_ _ _, Below.refl _ _⟩
  · have t0 : ((xs.length : Int) == 0) = false := beq_eq_false_iff_ne.2 (by omega)
    have x0 : val xs ≠ 0 := fun e => by rw [e, digs_zero] at ex; have := congrArg List.length ex; simp at this; omega
    have HA := Lib.hid (ha h0)
    have H := Lib.hid h
    have X0 := Lib.hid x0
    obtain ⟨x, hx⟩ : ∃ x, val xs = x := ⟨_, rfl⟩
    have HX := Lib.hid hx
    clear h ha x0 ex
    go_enter Tryd.func108, Tryd.ntmps108
    go_wp2_with fail
    refine HA.out.mono ?_
    rintro e w1 ⟨A1, c1, u, rfl, g1, g2, g3, g4, g5⟩
    rw [hx] at g3
    have G1 := Lib.hid g1
    have G2 := Lib.hid g2
    have G3 := Lib.hid g3
    have G4 := Lib.hid g4
    have G5 := Lib.hid g5
    clear g1 g2 g3 g4 g5 hx
    go_wp2
    go_loopg [3] u (fun g s wr => ∃ (A3 : Option Addr) (c3 : Nat), s = .slice A3 (digs g).length c3 ∧ Hid (0 < g) ∧ Hid (x < (g + 1) * (g + 1)) ∧ (digs g).length ≤ 600000 ∧ Hid (Dg wr A3 c3 (digs g)) ∧ Hid (Below w.heap.size w wr))
    case atStart => exact ⟨A1, c1, rfl, G4.out, G3.out, G5.out, G1.out, G2.out⟩
    case round =>
      obtain ⟨A3, c3, rfl, P0, P1, b1, D1, HB⟩ := hrel
      have L0 := Lib.hid (((live_start wr).add (H.out.below HB.out)).add D1.out)
      go_wp2_with fail
      refine Calls.mono (divmod_l (xs := xs) (ys := digs gk) (x := x) (y := gk) L0.out (by simp) (by simp) rfl rfl HX.out (val_digs _) (by omega) (by omega) (by have := P0.out; omega)) ?_
      rintro e w2 ⟨A4, c4, A5, c5, rfl, h1⟩
      have L1 := Lib.hid h1
      clear h1
      have l1 : (digs (x / gk)).length ≤ 500000 := Nat.le_trans (digs_len_mono _ _ (Nat.div_le_self x gk)) (by rw [← HX.out]; have := digs_len_le H.out.2.1; omega)
      have l2 := digs_add_len gk (x / gk)
      go_wp2_with fail
      refine Calls.mono (add_l (xs := digs gk) (ys := digs (x / gk)) (x := gk) (y := x / gk) L1.out (by simp) (by simp) rfl rfl (val_digs _) (val_digs _) (by omega) (by omega)) ?_
      rintro e w3 ⟨A6, c6, rfl, h1⟩
      have L2 := Lib.hid h1
      clear h1
      go_wp2_with fail
      refine Calls.mono (shr_l (xs := digs (gk + x / gk)) (x := gk + x / gk) (i := 1) (k := 1) L2.out (by simp) rfl (val_digs _) (by omega) rfl (by omega)) ?_
      rintro e w4 ⟨A7, c7, rfl, h1⟩
      rw [Nat.pow_one] at h1
      rw [Nat.pow_one]
      have L3 := Lib.hid h1
      clear h1
      obtain ⟨t, ht⟩ : ∃ t, (gk + x / gk) / 2 = t := ⟨_, rfl⟩
      rw [ht] at L3
      rw [ht]
      have HT := Lib.hid ht
      have l3 : (digs t).length ≤ (digs (gk + x / gk)).length := digs_len_mono _ _ (by omega)
      clear ht
      obtain ⟨q, hq⟩ : ∃ q : Int, cmpi t gk = q := ⟨_, rfl⟩
      have HC := Lib.hid hq
      go_wp2_with fail
      refine Calls.mono (cmp_l (xs := digs t) (ys := digs gk) (x := t) (y := gk) L3.out (by simp) (by simp) rfl rfl (val_digs _) (val_digs _) (by omega) (by omega) HC.out) ?_
      rintro e w5 ⟨rfl, h1⟩
      have L4 := Lib.hid h1
      clear h1
      rcases Nat.lt_or_ge t gk with hlt | hge
      · have d0 : decide (0 ≤ q) = false := by rw [← hq, cmpi_lt hlt]; rfl
        have HLT := Lib.hid hlt
        clear hq hlt
        go_wp2
        go_roundg t
        case measure => exact HLT.out
        case rel =>
          have hn := newton P0.out HT.out.symm
          have hp : 0 < t := Nat.lt_of_lt_of_le (rt_pos (by rw [← HX.out]; exact X0.out)) (rt_le hn)
          exact ⟨A7, c7, rfl, hp, hn, Nat.le_trans (digs_len_mono _ _ (Nat.le_of_lt HLT.out)) b1, L4.out.get (by simp), HB.out.trans (L4.out.1.mono HB.out.size)⟩
      · have d0 : decide (0 ≤ q) = true := by
          rw [← hq]
          rcases Nat.eq_or_lt_of_le hge with e | e
          · rw [cmpi_eq e.symm]; rfl
          · rw [cmpi_gt e]; rfl
        have HS := Lib.hid (rt_is (newton_end P0.out HT.out.symm hge) P1.out)
        clear hq hge
        go_wp2
        go_ret
        rw [HX.out, ← HS.out]
        exact ⟨A3, c3, rfl, L4.out.get (by simp), HB.out.trans (L4.out.1.mono HB.out.size)⟩
theorem two_pow_half (b : Nat) : 2 ^ b ≤ 2 ^ ((b + 1) / 2) * 2 ^ ((b + 1) / 2) := by
  rw [← Nat.pow_add]; exact Nat.pow_le_pow_right (by omega) (by omega)
theorem sq_up {x u : Nat} (h : x < u * u) : x < (u + 1) * (u + 1) := Nat.lt_of_lt_of_le h (Nat.mul_le_mul (by omega) (by omega))
set_option maxHeartbeats 4000000 in
set_option maxRecDepth 100000 in
theorem above_small (A : Option Addr) (c : Nat) (xs : List Nat) (w : World) (h : Dg w A c xs) (hl : xs.length < 4) :
    Calls Tryd.prog 124 #[.slice A xs.length c] w fun e w' => Abv w (val xs) e w' := by
  have L0 := Lib.hid ((live_start w).add h)
  have hb : blen (val xs) ≤ 32 * xs.length := bits_le _ _ (by have := val_lt h.2.1; rwa [show (4294967296 : Nat) ^ xs.length = 2 ^ (32 * xs.length) by rw [Nat.pow_mul]] at this)
  have hB := Lib.hid (blen_lt (val xs))
  have t0 : ((xs.length : Int) / 4 == 0) = true := by rw [beq_iff_eq]; omega
  have t1 : (xs.length : Int) / 4 = 0 := by omega
  clear h
  go_enter Tryd.func124, Tryd.ntmps124
  go_wp2_with fail
  have Ln := Lib.hid (L0.out.new1 1 1 rfl (by omega))
  refine Calls.mono (bits_l (xs := xs) (x := val xs) Ln.out (by simp) rfl rfl (by omega) rfl) ?_
  rintro e w1 ⟨rfl, h1⟩
  have L1 := Lib.hid h1
  clear h1
  go_wp2_with fail
  refine Calls.mono (shl_l (xs := [1]) (x := 1) (k := (blen (val xs) + 1) / 2) L1.out (by simp) rfl (by simp [val]) (by simp) (by omega) (by omega)) ?_
  rw [Nat.one_mul]
  rintro e w2 ⟨A2, c2, rfl, h1⟩
  have L2 := Lib.hid h1
  clear h1
  have hlen := pow_digs_len ((blen (val xs) + 1) / 2)
  go_wp2
  go_ret
  exact ⟨A2, c2, 2 ^ ((blen (val xs) + 1) / 2), rfl, L2.out.get (by simp), L2.out.1, sq_up (Nat.lt_of_lt_of_le hB.out (two_pow_half _)), Nat.pow_pos (by omega), by omega⟩
theorem own_row {w : World} {base g : Nat} {ys : List Nat} (h : Row w g ys) (hb : base ≤ g) (hm : ys.length ≤ maxLen) : w.ownsRow base 52 1 (.slice (some ⟨g, 0, none⟩) ys.length ys.length) ys.length (cells ys) :=
  ⟨by simp [cells], .inr ⟨g, ys.length, (cells ys).toArray, rfl, hb, h, Nat.le_refl _, hm, by simp [cells], by rw [Nat.mul_one, List.take_of_length_le (by simp [cells])]⟩⟩
theorem digs_lift (k u : Nat) (hu : u ≠ 0) : digs (4294967296 ^ k * u) = List.replicate k 0 ++ digs u := by
  have e : val (List.replicate k 0 ++ digs u) = 4294967296 ^ k * u := by rw [val_append, val_zeros, List.length_replicate, val_digs]; omega
  rw [← e]
  refine digs_val (fun x hx => ?_) (fun x hx => ?_)
  · rcases List.mem_append.1 hx with hx | hx
    · exact ok_zeros k x hx
    · exact ok_digs u x hx
  · rw [List.getLast?_append] at hx
    rcases hd : (digs u).getLast? with _ | z
    · exfalso; rw [List.getLast?_eq_none_iff] at hd; exact hu (digs_nil.1 (by rw [hd]; rfl))
    · rw [hd] at hx; simp at hx; subst hx; exact last_digs hd
set_option maxHeartbeats 4000000 in
set_option maxRecDepth 100000 in
theorem above_big (b off c k h r : Nat) (xs : List Nat) (w : World) (hl : xs.length ≤ 500000) (hk : xs.length / 4 = k) (hk0 : 0 < k) (hh : 2 * k = h) (hc : xs.length ≤ c)
    (HR : Hid (Calls Tryd.prog 108 #[.slice (some ⟨b, off + h, none⟩) (xs.length - h) (c - h)] w fun e w' => ∃ A' c', e = .returned (.slice A' (digs r).length c') ∧ Dg w' A' c' (digs r) ∧ Below w.heap.size w w'))
    (hr : (digs r).length ≤ 500000 - k) (hx : Hid (val xs < 4294967296 ^ k * (r + 1) * (4294967296 ^ k * (r + 1)))) :
    Calls Tryd.prog 124 #[.slice (some ⟨b, off, none⟩) xs.length c] w fun e w' => Abv w (val xs) e w' := by
  have i1 : (xs.length : Int) / 4 = (k : Int) := by omega
  have i2 : (2 : Int) * (k : Int) = (h : Int) := by omega
  have i3 : ((k : Int) == 0) = false := beq_eq_false_iff_ne.2 (by omega)
  have i4 : h ≤ xs.length := by omega
  have i5 : ¬ (c = h) := by omega
  have i6 : k ≤ 125000 := by omega
  have hmk := run_make_row' (P := Tryd.prog) 22 52 (.int .u32 0) 4 Tryd.underlying22 elem_info rfl .i64 .i64 k (by omega) (by omega)
  obtain ⟨i0, hi, hz0, hz1, hz2⟩ := info_parts elem_info
  clear hk hh
  go_enter Tryd.func124, Tryd.ntmps124
  go_wp2_with fail
  refine HR.out.mono ?_
  rintro e w1 ⟨A1, c1, rfl, g1, g2⟩
  have L1 := Lib.hid (show Live w w1 [(A1, c1, digs r)] from (show Live w w1 [] from ⟨g2, fun t ht => by simp at ht⟩).add g1)
  clear g1 g2
  go_wp2_with fail
  have Ln := Lib.hid (L1.out.new1 1 1 rfl (by omega))
  refine Calls.mono (add_l (xs := digs r) (ys := [1]) (x := r) (y := 1) Ln.out (by simp) (by simp) rfl rfl (val_digs _) (by simp [val]) (by omega) (by simp)) ?_
  rintro e w2 ⟨A2, c2, rfl, h1⟩
  have D2 := Lib.hid (show Dg w2 A2 c2 (digs (r + 1)) from h1.get (by simp))
  have B2 := Lib.hid h1.1
  clear h1
  have hd0 : 0 < (digs (r + 1)).length := by
    rcases Nat.eq_zero_or_pos (digs (r + 1)).length with h0 | h0
    · have := digs_nil.1 h0; omega
    · exact h0
  have hdl := digs_add_len r 1
  have hd1 := digs_small (n := 1) (by omega)
  have HD := Lib.hid (digs_lift k (r + 1) (by omega))
  have OK := Lib.hid (ok_digs (r + 1))
  obtain ⟨b2, off2, hA2, hb2, _⟩ := D2.out.2.2 hd0
  have D2' := D2.out
  subst hA2
  generalize digs (r + 1) = T at *
  have D3 := Lib.hid D2'
  clear D2 D2'
  have HO := Lib.hid (own_row (base := w2.heap.size) (Row.made w2 k) (Nat.le_refl _) (by rw [List.length_replicate]; unfold maxLen; omega))
  rw [List.length_replicate] at HO
  go_wp2_with (at_builtin; refine wpList_append_own _ rfl _ _ 22 rfl w2.heap.size 52 i0 (.int .u32 0) 1 4 Tryd.underlying22 hi hz0 hz1 hz2 rfl (by decide) _ _ _ rfl HO.out ⟨b2, off2, none⟩ T.length c2 (cells T) rfl ?qc1 ?qc2 ?qc3 ?qc4 ?qc5 ?qc6 ?_)
  case qc1 => simp [cells]
  case qc2 =>
    intro j u hj
    rw [← dg_cell D3.out hj]
    exact World.cell?_alloc_lt w2 _ _ (by rw [Addr.add_lit]; exact hb2)
  case qc3 => intro u hu; unfold cells at hu; obtain ⟨x, _, rfl⟩ := List.mem_map.1 hu; rfl
  case qc4 => unfold maxLen; omega
  case qc5 => omega
  case qc6 => simp
  intro v' w3 hown hgrow hnil
  have e1 : cells (List.replicate k 0) ++ cells T = cells (List.replicate k 0 ++ T) := by simp [cells]
  rw [e1] at hown
  obtain ⟨A', c', hv, hd⟩ := dg_of_own hown (by
    intro x hx
    rcases List.mem_append.1 hx with hx | hx
    · exact ok_zeros k x hx
    · exact OK.out x hx)
  have HV := Lib.hid hv
  have HDD := Lib.hid hd
  have HGR := Lib.hid (((Below.refl _ w2).alloc (Nat.le_refl _) _).grown hgrow (by simp) (by intro k hk; simp [Value.ownBlock] at hk; omega))
  clear hv hown hd hgrow hnil e1
  go_wp2
  go_ret
  refine ⟨A', c', 4294967296 ^ k * (r + 1), by rw [HD.out, ← HV.out]; rfl, by rw [HD.out]; exact HDD.out, B2.out.trans (HGR.out.mono B2.out.size), sq_up hx.out, Nat.mul_pos (Nat.pow_pos (by omega)) (by omega), by rw [HD.out, List.length_append, List.length_replicate]; omega⟩
end Go.Proofs.YtaciohjobenipaaDoor
end

section
/-
  quo.root at every length; quo.Sqrt.
-/
namespace Go.Proofs.YtaciohjobenipaaDoor
open Go.RowKit
theorem Dg.drop_ {w : World} {b off c : Nat} {xs : List Nat} (h : Dg w (some ⟨b, off, none⟩) c xs) (j : Nat) : Dg w (some ⟨b, off + j, none⟩) (c - j) (xs.drop j) := by
  refine ⟨by rw [List.length_drop]; have := h.1; omega, fun x hx => h.2.1 x (List.mem_of_mem_drop hx), fun h0 => ?_⟩
  rw [List.length_drop] at h0
  obtain ⟨b', off', e, hb, hc⟩ := h.2.2 (by omega)
  injection e with e
  injection e with e1 e2 _
  subst e1 e2
  refine ⟨b, off + j, rfl, hb, fun i hi => ?_⟩
  rw [List.length_drop] at hi
  rw [Nat.add_assoc, hc _ (by omega), List.getElem?_drop]
theorem rt_self (n : Nat) : rt n ≤ n := by
  rcases Nat.eq_zero_or_pos (rt n) with h | h
  · omega
  · exact Nat.le_trans (Nat.le_mul_of_pos_right _ h) (rt_spec n).1
theorem trimmed_drop {xs : List Nat} (hk : ok32 xs) (ex : digs (val xs) = xs) (j : Nat) : digs (val (xs.drop j)) = xs.drop j := by
  refine digs_val (fun x hx => hk x (List.mem_of_mem_drop hx)) fun x hx => ?_
  rw [List.getLast?_drop] at hx
  split at hx
  · cases hx
  · exact last_digs (n := val xs) (by rw [ex]; exact hx)
theorem above_le {xs : List Nat} (hk : ok32 xs) {k : Nat} (h : 2 * k ≤ xs.length) : val xs < 4294967296 ^ k * (rt (val (xs.drop (2 * k))) + 1) * (4294967296 ^ k * (rt (val (xs.drop (2 * k))) + 1)) := by
  have h1 := val_split xs h
  have h2 := val_take_lt hk (2 * k) h
  have h3 := (rt_spec (val (xs.drop (2 * k)))).2
  rw [Nat.mul_mul_mul_comm, ← Nat.pow_add, show k + k = 2 * k by omega]
  have h4 := Nat.mul_le_mul_left (4294967296 ^ (2 * k)) h3
  rw [Nat.mul_succ] at h4
  omega
theorem root_all : ∀ (N : Nat) (A : Option Addr) (c : Nat) (xs : List Nat) (w : World), xs.length ≤ N → Dg w A c xs → xs.length ≤ 500000 → digs (val xs) = xs →
    Calls Tryd.prog 108 #[.slice A xs.length c] w fun e w' => ∃ A' c', e = .returned (.slice A' (digs (rt (val xs))).length c') ∧ Dg w' A' c' (digs (rt (val xs))) ∧ Below w.heap.size w w' := by
  intro N
  induction N using Nat.strongRecOn with
  | ind N IH =>
    intro A c xs w hN h hl ex
    refine root_of A c xs w h hl ex fun h0 => ?_
    rcases Nat.lt_or_ge xs.length 4 with h4 | h4
    · exact above_small A c xs w h h4
    · obtain ⟨b, off, rfl, _, _⟩ := h.2.2 h0
      have hj : (xs.drop (2 * (xs.length / 4))).length = xs.length - 2 * (xs.length / 4) := List.length_drop
      have HR := IH (xs.length - 2 * (xs.length / 4)) (by omega) (some ⟨b, off + 2 * (xs.length / 4), none⟩) (c - 2 * (xs.length / 4)) (xs.drop (2 * (xs.length / 4))) w (by omega) (h.drop_ _) (by omega) (trimmed_drop h.2.1 ex _)
      rw [hj] at HR
      have hr : (digs (rt (val (xs.drop (2 * (xs.length / 4)))))).length ≤ 500000 - xs.length / 4 := by
        have h1 := digs_len_mono _ _ (rt_self (val (xs.drop (2 * (xs.length / 4)))))
        rw [trimmed_drop h.2.1 ex] at h1
        omega
      exact above_big b off c (xs.length / 4) (2 * (xs.length / 4)) _ xs w hl rfl (by omega) rfl h.1 HR hr (above_le h.2.1 (by omega))
set_option maxHeartbeats 2000000 in
set_option maxRecDepth 100000 in
theorem sqrt_any (A : Option Addr) (c : Nat) (xs : List Nat) (w : World) (h : Dg w A c xs) (hl : xs.length ≤ 500000) :
    Calls Tryd.prog 76 #[.slice A xs.length c] w fun e w' => ∃ A' c' B' d', e = .returned (.tuple #[.slice A' (digs (rt (val xs))).length c', .slice B' (digs (val xs - rt (val xs) * rt (val xs))).length d']) ∧ Dg w' A' c' (digs (rt (val xs))) ∧ Dg w' B' d' (digs (val xs - rt (val xs) * rt (val xs))) ∧ Below w.heap.size w w' := by
  have L0 := Lib.hid ((live_start w).add h)
  have l1 := digs_len_le h.2.1
  have l2 := digs_len_mono _ _ (rt_self (val xs))
  have l3 := digs_mul_len (rt (val xs)) (rt (val xs))
  have HS := Lib.hid (rt_spec (val xs)).1
  clear h
  go_enter Tryd.func76, Tryd.ntmps76
  go_wp2_with fail
  refine Calls.mono (trim_l (xs := xs) (x := val xs) L0.out (by simp) rfl rfl (by omega)) ?_
  rintro e w1 ⟨A1, c1, rfl, h1⟩
  have L1 := Lib.hid h1
  clear h1
  have HR := root_all (digs (val xs)).length A1 c1 (digs (val xs)) w1 (Nat.le_refl _) (L1.out.get (by simp)) (by omega) (by rw [val_digs])
  rw [val_digs] at HR
  have HRR := Lib.hid HR
  clear HR
  go_wp2_with fail
  refine HRR.out.mono ?_
  rintro e w2 ⟨A2, c2, rfl, g1, g2⟩
  have L2 := Lib.hid ((L1.out.step g2).add g1)
  clear g1 g2
  go_wp2_with fail
  refine Calls.mono (mul_l (xs := digs (rt (val xs))) (ys := digs (rt (val xs))) (x := rt (val xs)) (y := rt (val xs)) L2.out (by simp) (by simp) rfl rfl (val_digs _) (val_digs _) (by omega) (by omega)) ?_
  rintro e w3 ⟨A3, c3, rfl, h1⟩
  have L3 := Lib.hid h1
  clear h1
  go_wp2_with fail
  refine Calls.mono (sub_l (xs := xs) (ys := digs (rt (val xs) * rt (val xs))) (x := val xs) (y := rt (val xs) * rt (val xs)) L3.out (by simp) (by simp) rfl rfl rfl (val_digs _) (by omega) (by omega) HS.out) ?_
  rintro e w4 ⟨A4, c4, rfl, h1⟩
  have L4 := Lib.hid h1
  clear h1
  go_wp2
  go_ret2
  exact ⟨A2, c2, A4, c4, rfl, L4.out.get (by simp), L4.out.get (by simp), L4.out.1⟩
section
variable {w0 w w' : World} {L : List (Option Addr × Nat × List Nat)} {A : Option Addr} {c n : Nat} {xs : List Nat} {x : Nat}
theorem sqrt_l (hL : Live w0 w L) (h1 : (A, c, xs) ∈ L) (hn : n = xs.length) (hx : val xs = x) (b1 : xs.length ≤ 500000) :
    Calls Tryd.prog 76 #[.slice A n c] w fun e w' => ∃ A' c' B' d', e = .returned (.tuple #[.slice A' (digs (rt x)).length c', .slice B' (digs (x - rt x * rt x)).length d']) ∧ Live w0 w' ((B', d', digs (x - rt x * rt x)) :: (A', c', digs (rt x)) :: L) := by
  subst hn hx
  exact (sqrt_any A c xs w (hL.get h1) b1).mono fun e w' ⟨A', c', B', d', he, hd, hd', hb⟩ => ⟨A', c', B', d', he, ((hL.step hb).add hd).add hd'⟩
end
end Go.Proofs.YtaciohjobenipaaDoor
end

section
/-
  dyad.Sqrt.
-/
namespace Go.Proofs.YtaciohjobenipaaDoor
open Go.RowKit
set_option linter.unusedSimpArgs false
set_option linter.unusedVariables false
theorem and_i64_1 (v : Int) (h0 : -4611686018427387904 ≤ v) (h1 : v ≤ 4611686018427387904) : bits BinOp.and IntKind.i64 v 1 = v % 2 := by
  show IntKind.i64.wrap ((BitVec.ofInt 64 v &&& BitVec.ofInt 64 1).toNat : Int) = _
  have e1 : (BitVec.ofInt 64 1).toNat = 1 := by decide
  have e2 : (BitVec.ofInt 64 v).toNat = (v % 18446744073709551616).toNat := by rw [BitVec.toNat_ofInt]; rfl
  rw [BitVec.toNat_and, e1, e2, Nat.and_one_is_mod, IntWalk.i64_in _ ⟨by omega, by omega⟩]
  omega
theorem sqrt_kept {m x h : Int} {k p : Nat} {up more : Bool} (m0 : 0 < m) (p1 : 1 ≤ p) (hk : 2 * p ≤ blen m.natAbs + k) (hh : x - k = 2 * h) (hm : more = decide (m.natAbs * 2 ^ k - rt (m.natAbs * 2 ^ k) * rt (m.natAbs * 2 ^ k) ≠ 0)) :
    p ≤ blen (rt (m.natAbs * 2 ^ k)) ∧ RsOf (dv m x) p up (nm (kept (rt (m.natAbs * 2 ^ k)) p more up : Nat)) (nx (kept (rt (m.natAbs * 2 ^ k)) p more up : Nat) (h + (blen (rt (m.natAbs * 2 ^ k)) - p : Nat))) := by
  have ⟨a, b⟩ := rt_spec (m.natAbs * 2 ^ k)
  have hN : 2 ^ (2 * (p - 1)) ≤ m.natAbs * 2 ^ k := by
    have ⟨a, _, c⟩ := blen_bd m.natAbs (by omega)
    refine Nat.le_trans (Nat.pow_le_pow_right (by omega) (show 2 * (p - 1) ≤ blen m.natAbs - 1 + k by omega)) ?_
    rw [Nat.pow_add]; exact Nat.mul_le_mul_right _ a
  have hv : dv m x = dv ((m.natAbs * 2 ^ k : Nat) : Int) (h + h) := by
    have := dv_pow (m.natAbs : Int) k (h + h)
    rw [show h + h + (k : Int) = x by omega] at this
    rw [show ((m.natAbs : Nat) : Int) = m by omega] at this
    rw [← this]; congr 1
    push_cast
    rw [show ((m.natAbs : Nat) : Int) = m by omega]
  generalize m.natAbs * 2 ^ k = N at *
  generalize rt N = R at *
  have hR : 2 ^ (p - 1) ≤ R := by
    rcases Nat.lt_or_ge R (2 ^ (p - 1)) with h | h
    · exfalso
      have h1 : (R + 1) * (R + 1) ≤ 2 ^ (p - 1) * 2 ^ (p - 1) := Nat.mul_le_mul h h
      rw [← Nat.pow_add, show p - 1 + (p - 1) = 2 * (p - 1) by omega] at h1
      omega
    · exact h
  have hpb : p ≤ blen R := by
    have h1 := blen_uniq (n := 2 ^ (p - 1)) (k := p - 1) (Nat.le_refl _) (Nat.pow_lt_pow_right (by omega) (by omega))
    have := blen_mono hR
    omega
  refine ⟨hpb, ?_⟩
  have e1 : dv (R : Int) h * dv (R : Int) h = dv ((R * R : Nat) : Int) (h + h) := by rw [dv_mul]; congr 1
  have e2 : dv (R + 1 : Int) h * dv (R + 1 : Int) h = dv (((R + 1) * (R + 1) : Nat) : Int) (h + h) := by rw [dv_mul]; congr 1
  refine kept_rs (more := more) (up := up) (e := h) hpb p1 ?_ ?_ ?_ (nf_n _ _) (dv_n _ _)
  · rw [e1, hv, dv_le]; exact_mod_cast a
  · rw [e2, hv, dv_lt]; exact_mod_cast b
  · rw [hm, decide_eq_decide, e1, hv]
    constructor
    · intro h1 h2
      have h3 := dv_inj h2
      have : N = R * R := by exact_mod_cast h3
      omega
    · intro h1 h2
      apply h1
      have : N = R * R := by omega
      rw [this]
theorem sqrt_d {A : Option Addr} {c N : Nat} {w : World} (h : Dg w A c (digs N)) (hl : (digs N).length ≤ 500000) :
    Calls Tryd.prog 76 #[.slice A (digs N).length c] w fun e w' => ∃ A' c' B' d', e = .returned (.tuple #[.slice A' (digs (rt N)).length c', .slice B' (digs (N - rt N * rt N)).length d']) ∧ Dg w' A' c' (digs (rt N)) ∧ Dg w' B' d' (digs (N - rt N * rt N)) ∧ Below w.heap.size w w' := by
  have := sqrt_any A c (digs N) w h hl
  rw [val_digs] at this; exact this

set_option maxHeartbeats 4000000 in
set_option maxRecDepth 100000 in
theorem sqrt_z_ (A : Option Addr) (c : Nat) (m x P M E : Int) (up : Bool) (w : World) (h : Dg w A c (digs m.natAbs)) (hl : (digs m.natAbs).length ≤ 10000) (r1 : Rt m x) (hT : T32 w) {p : Nat} (hP : (p : Int) = P) (p2 : 2 ≤ p) (p4 : p ≤ 400) (hs : RsOf (dv m x) p up M E) (hq : inR M E = true) (m0 : m = 0):
    Calls Tryd.prog 35 #[.agg #[.bool (decide (m < 0)), .slice A (digs m.natAbs).length c, .int .i64 x], .int .i64 P, .bool up] w fun e w' => Ye M E 0 w e w' := by
  have HR1 := Lib.hid r1
  have lx := Lib.hid hl
  have HQ := Lib.hid hq
  have x0 := r1.2.1
  have x1 := r1.2.2
  have LM := Lib.hid (inr_len hq)
  have HPR := Lib.hid (precB_in (P := P) (by omega) (by omega))
  have D1 := Lib.hid (show decide (m = 0) = true by simp; omega)
  have dneg : decide (m < 0) = false := by simp; omega
  have HNEG := Lib.hid dneg
  obtain ⟨rfl, rfl⟩ := RsOf.uniq (by omega) (M := m) (E := x) ⟨r1.1, .inl ⟨by rw [m0, dv_zero], m0⟩⟩ hs
  have HT := Lib.hid hT
  clear hT
  have L0 := Lib.hid ((live_start w).add h)
  clear h hl r1 hs hq hP m0 dneg
  go_enter Tryd.func35, Tryd.ntmps35
  go_wp2_with fail
  obtain ⟨v1, hW, hb, Rx_1, Rr_1, Rsl_1⟩ := new3 w (.cells #[.bool (decide (m < 0)), .slice A (digs m.natAbs).length c, .int .i64 x] 26) (.cells #[.bool false, .slice none 0 0, .int .i64 0] 26) (.cells #[.bool (decide (m < 0)), .slice A (digs m.natAbs).length c, .int .i64 x] 26)
  rw [← hW]
  have L1 := ls L0 hb
  have Gx := gl0 L0.out
  have Gr := gl1 L0.out
  have Nxr : w.heap.size < w.heap.size + 1 := by omega
  have Gsl := gl2 L0.out
  have Nxsl : w.heap.size < w.heap.size + 1 + 1 := by omega
  have Nrsl : w.heap.size + 1 < w.heap.size + 1 + 1 := by omega
  clear hW hb
  refine (begin_1 Rsl_1.out (L1.out.get (A := A) (c := c) (xs := digs m.natAbs) (by simp)) (dyR_num HR1.out) (Nat.le_trans lx.out (by omega)) (k := 0) rfl).mono ?_
  rintro e w2 ⟨rfl, hb⟩
  have L2 := ls L1 hb
  have Rx_2 := co Rx_1 hb
  have Rr_2 := co Rr_1 hb
  have Rsl_2 := co Rsl_1 hb
  clear hb 
  go_wp2_with fail
  obtain ⟨w3, hW, hb, Rk_3⟩ := new1 w2 (.cells #[.int .i64 0] 66)
  rw [← hW]
  have L3 := ls L2 hb
  have Rx_3 := co Rx_2 hb
  have Rr_3 := co Rr_2 hb
  have Rsl_3 := co Rsl_2 hb
  have Gk := gl0 L2.out
  have Nxk := nl0 Rx_2.out
  have Nrk := nl0 Rr_2.out
  have Nslk := nl0 Rsl_2.out
  clear hW hb
  refine (precision_no _ 0 P _ (row_c Rk_3.out (i := 0) rfl) (.inl HPR.out)).mono ?_
  rintro e w4 ⟨rfl, rfl⟩
  have dneg := HNEG.out
  obtain ⟨fx0, zx0, fx1, zx1, fx2, zx2, xx⟩ := ly3 Rx_3.out
  go_wp2_with fail
  refine (tell_no _ 0 3 false _ (row_c Rk_3.out (i := 0) rfl) (.inl rfl)).mono ?_
  rintro e w5 ⟨rfl, rfl⟩
  clear dneg
  clear fx0 zx0 fx1 zx1 fx2 zx2 xx
  go_wp2_with fail
  refine (fails_any _ 0 false _ (row_c Rk_3.out (i := 0) rfl) rfl).mono ?_
  rintro e w6 ⟨rfl, rfl⟩
  obtain ⟨fx0, zx0, fx1, zx1, fx2, zx2, xx⟩ := ly3 Rx_3.out
  go_wp2_with fail
  refine (isz_d (x := x) D1.out).mono ?_
  rintro e w7 ⟨rfl, hb⟩
  have L7 := ls L3 hb
  clear fx0 zx0 fx1 zx1 fx2 zx2 xx
  have Rx_7 := co Rx_3 hb
  have Rr_7 := co Rr_3 hb
  have Rsl_7 := co Rsl_3 hb
  have Rk_7 := co Rk_3 hb
  clear hb 
  obtain ⟨fx0, zx0, fx1, zx1, fx2, zx2, xx⟩ := ly3 Rx_7.out
  go_wp2_with fail
  refine (answer_d (row_c Rk_7.out (i := 0) rfl) (heap_lt Rk_7.out) (L7.out.get (A := A) (c := c) (xs := digs m.natAbs) (by simp)) (Nat.le_trans LM.out (by omega)) HQ.out).mono ?_
  rintro e w8 ⟨A8, c8, rfl, hd, hb⟩
  have L8 := la L7 hb hd
  clear fx0 zx0 fx1 zx1 fx2 zx2 xx
  have Rx_8 := co Rx_7 hb
  have Rr_8 := co Rr_7 hb
  have Rsl_8 := co Rsl_7 hb
  have Rk_8 := co Rk_7 hb
  clear hb hd
  obtain ⟨fr0, zr0, fr1, zr1, fr2, zr2, xr⟩ := ly3 Rr_8.out
  go_wp2
  refine bodyPost_ret (v := .tuple #[.agg #[.bool (decide (m < 0)), .slice A8 (digs m.natAbs).length c8, .int .i64 x], .int .i64 0]) (by simp [results, Tryd.results35, go_sem, fr0, fr1, fr2]) rfl ?_
  
  refine ⟨A8, c8, rfl, ?_, ?_⟩
  · exact (fin3 L8.out Rr_8.out noint3 Gr).get (A := A8) (c := c8) (xs := digs m.natAbs) (by simp)
  · exact (fin3 L8.out Rr_8.out noint3 Gr).1

set_option maxHeartbeats 4000000 in
set_option maxRecDepth 100000 in
theorem sqrt_b_ (A : Option Addr) (c : Nat) (m x P M E : Int) (up : Bool) (w : World) (h : Dg w A c (digs m.natAbs)) (hl : (digs m.natAbs).length ≤ 10000) (r1 : Rt m x) (hT : T32 w) {p : Nat} (hP : (p : Int) = P) (p2 : 2 ≤ p) (p4 : p ≤ 400) (hs : RsOf (dv m x) p up M E) (hq : inR M E = true) (m0 : 0 < m):
    Calls Tryd.prog 35 #[.agg #[.bool (decide (m < 0)), .slice A (digs m.natAbs).length c, .int .i64 x], .int .i64 P, .bool up] w fun e w' => Ye M E 0 w e w' := by
  have HR1 := Lib.hid r1
  have lx := Lib.hid hl
  have HQ := Lib.hid hq
  have x0 := r1.2.1
  have x1 := r1.2.2
  have LM := Lib.hid (inr_len hq)
  have HPR := Lib.hid (precB_in (P := P) (by omega) (by omega))
  have D1 := Lib.hid (show decide (m = 0) = false by simp; omega)
  have dneg : decide (m < 0) = false := by simp; omega
  have HNEG := Lib.hid dneg
  have b1 := bl_bd hl
  obtain ⟨z1, hz1⟩ : ∃ z : Int, (blen m.natAbs : Int) = z := ⟨_, rfl⟩
  obtain ⟨k1, hk1⟩ : ∃ k : Int, max 0 (2 * P - z1) = k := ⟨_, rfl⟩
  obtain ⟨o, ho⟩ : ∃ o : Int, (x - k1) % 2 = o := ⟨_, rfl⟩
  obtain ⟨k, hk⟩ : ∃ k : Int, k1 + o = k := ⟨_, rfl⟩
  obtain ⟨kn, hkn⟩ : ∃ kn : Nat, kn = k.toNat := ⟨_, rfl⟩
  have hkk : k = (kn : Int) := by omega
  have hkb : kn ≤ 330000 := by omega
  have hkp : 2 * p ≤ blen m.natAbs + kn := by omega
  obtain ⟨hf, hhf⟩ : ∃ h : Int, x - k = 2 * h := ⟨(x - k) / 2, by omega⟩
  have hlN := up_len (q := m.natAbs) hl hkb
  obtain ⟨mo, hmo⟩ : ∃ t, decide (m.natAbs * 2 ^ kn - rt (m.natAbs * 2 ^ kn) * rt (m.natAbs * 2 ^ kn) ≠ 0) = t := ⟨_, rfl⟩
  have hkept := sqrt_kept (m := m) (x := x) (h := hf) (k := kn) (p := p) (up := up) (more := mo) m0 (by omega) hkp (by omega) hmo.symm
  have hu := RsOf.uniq (by omega) hkept.2 hs
  have HB := Lib.hid hkept.1
  obtain ⟨N, hN⟩ : ∃ N, m.natAbs * 2 ^ kn = N := ⟨_, rfl⟩
  rw [hN] at hlN hu HB hmo
  have hrl : rt N ≤ N := by
    have := (rt_spec N).1
    rcases Nat.eq_zero_or_pos (rt N) with h0 | h0
    · omega
    · exact Nat.le_trans (Nat.le_mul_of_pos_left _ h0) this
  have hlQ := digs_len_mono _ _ hrl
  have HMO := Lib.hid (show decide (0 < (digs (N - rt N * rt N)).length) = mo by rw [← hmo, decide_eq_decide]; have := @digs_nil (N - rt N * rt N); omega)
  obtain ⟨Q, hQ⟩ : ∃ Q, rt N = Q := ⟨_, rfl⟩
  rw [hQ] at hu HB hlQ HMO
  obtain ⟨R, hR⟩ : ∃ R, N - Q * Q = R := ⟨_, rfl⟩
  rw [hR] at HMO
  have DM := Lib.hid (fun (A : Option Addr) (c : Nat) W (h : Dg W A c (digs N)) => sqrt_d h (by omega))
  rw [hQ, hR] at DM
  have hu1 := hu.1
  have hu2 := hu.2
  have HM := Lib.hid (show nm (sg false (kept Q p mo (up != false))) = M by rw [← hu1]; cases up <;> rfl)
  have HE := Lib.hid (show nx (sg false (kept Q p mo (up != false))) (hf + (blen Q - p : Nat)) = E by rw [← hu2]; cases up <;> rfl)
  have HN := Lib.hid hN
  have HKK := Lib.hid hkk
  have HKB := Lib.hid (show kn ≤ 1000000 by omega)
  have HP2 := Lib.hid hP
  have HZ1 := Lib.hid hz1
  have LQ := Lib.hid (show (digs Q).length ≤ 30000 by omega)
  have LN := Lib.hid hlN
  obtain ⟨s0, hs0⟩ : ∃ s, 2 * P = s := ⟨_, rfl⟩
  obtain ⟨s1, hs1⟩ : ∃ s, s0 - z1 = s := ⟨_, rfl⟩
  have S0 := Lib.hid (show wrap64 (2 * P) = s0 by rw [IntWalk.wrap64_in _ ⟨by omega, by omega⟩]; exact hs0)
  have S1 := Lib.hid (show wrap64 (s0 - z1) = s1 by rw [IntWalk.wrap64_in _ ⟨by omega, by omega⟩]; exact hs1)
  have hmax : max 0 (2 * P - z1) = k1 := hk1
  have p0 : 2 ≤ P := by omega
  have p9 : P ≤ 400 := by omega
  have zz0 : 0 ≤ z1 := by omega
  have zz1 : z1 ≤ 320000 := by omega
  have k10 : 0 ≤ k1 := by omega
  have k19 : k1 ≤ 800 := by omega
  have o0 : 0 ≤ o := by omega
  have o1 : o ≤ 1 := by omega
  have hand : bits BinOp.and IntKind.i64 (x - k1) 1 = o := by rw [and_i64_1 _ (by omega) (by omega)]; exact ho
  have HAND := Lib.hid hand
  have HKO := Lib.hid (show wrap64 (k1 + bits BinOp.and IntKind.i64 (x - k1) 1) = k by rw [hand, IntWalk.wrap64_in _ ⟨by omega, by omega⟩]; exact hk)
  have HMAX := Lib.hid hmax
  have k0 : 0 ≤ k := by omega
  have k9 : k ≤ 1000 := by omega
  have HHF := Lib.hid hhf
  have hq2 : Int.tdiv (x - k) 2 = hf := by rw [hhf, Int.mul_comm]; exact Int.mul_tdiv_cancel _ (by omega)
  have HQ2 := Lib.hid hq2
  have hf0 : -70000 ≤ hf := by omega
  have hf9 : hf ≤ 70000 := by omega
  have HT := Lib.hid hT
  clear hT
  have L0 := Lib.hid ((live_start w).add h)
  clear h hl r1 hs hq hP m0 dneg hz1 hk1 ho hk hkn hkk hkb hkp hhf hlN hmo hkept hu hN hrl hlQ hQ hR hu1 hu2 hs0 hs1 hand hq2 b1 hmax
  go_enter Tryd.func35, Tryd.ntmps35
  go_wp2_with fail
  obtain ⟨v1, hW, hb, Rx_1, Rr_1, Rsl_1⟩ := new3 w (.cells #[.bool (decide (m < 0)), .slice A (digs m.natAbs).length c, .int .i64 x] 26) (.cells #[.bool false, .slice none 0 0, .int .i64 0] 26) (.cells #[.bool (decide (m < 0)), .slice A (digs m.natAbs).length c, .int .i64 x] 26)
  rw [← hW]
  have L1 := ls L0 hb
  have Gx := gl0 L0.out
  have Gr := gl1 L0.out
  have Nxr : w.heap.size < w.heap.size + 1 := by omega
  have Gsl := gl2 L0.out
  have Nxsl : w.heap.size < w.heap.size + 1 + 1 := by omega
  have Nrsl : w.heap.size + 1 < w.heap.size + 1 + 1 := by omega
  clear hW hb
  refine (begin_1 Rsl_1.out (L1.out.get (A := A) (c := c) (xs := digs m.natAbs) (by simp)) (dyR_num HR1.out) (Nat.le_trans lx.out (by omega)) (k := 0) rfl).mono ?_
  rintro e w2 ⟨rfl, hb⟩
  have L2 := ls L1 hb
  have Rx_2 := co Rx_1 hb
  have Rr_2 := co Rr_1 hb
  have Rsl_2 := co Rsl_1 hb
  clear hb 
  go_wp2_with fail
  obtain ⟨w3, hW, hb, Rk_3⟩ := new1 w2 (.cells #[.int .i64 0] 66)
  rw [← hW]
  have L3 := ls L2 hb
  have Rx_3 := co Rx_2 hb
  have Rr_3 := co Rr_2 hb
  have Rsl_3 := co Rsl_2 hb
  have Gk := gl0 L2.out
  have Nxk := nl0 Rx_2.out
  have Nrk := nl0 Rr_2.out
  have Nslk := nl0 Rsl_2.out
  clear hW hb
  refine (precision_no _ 0 P _ (row_c Rk_3.out (i := 0) rfl) (.inl HPR.out)).mono ?_
  rintro e w4 ⟨rfl, rfl⟩
  have dneg := HNEG.out
  obtain ⟨fx0, zx0, fx1, zx1, fx2, zx2, xx⟩ := ly3 Rx_3.out
  go_wp2_with fail
  refine (tell_no _ 0 3 false _ (row_c Rk_3.out (i := 0) rfl) (.inl rfl)).mono ?_
  rintro e w5 ⟨rfl, rfl⟩
  clear dneg
  clear fx0 zx0 fx1 zx1 fx2 zx2 xx
  go_wp2_with fail
  refine (fails_any _ 0 false _ (row_c Rk_3.out (i := 0) rfl) rfl).mono ?_
  rintro e w6 ⟨rfl, rfl⟩
  obtain ⟨fx0, zx0, fx1, zx1, fx2, zx2, xx⟩ := ly3 Rx_3.out
  go_wp2_with fail
  refine (isz_d (x := x) D1.out).mono ?_
  rintro e w7 ⟨rfl, hb⟩
  have L7 := ls L3 hb
  clear fx0 zx0 fx1 zx1 fx2 zx2 xx
  have Rx_7 := co Rx_3 hb
  have Rr_7 := co Rr_3 hb
  have Rsl_7 := co Rsl_3 hb
  have Rk_7 := co Rk_3 hb
  clear hb 
  obtain ⟨fx0, zx0, fx1, zx1, fx2, zx2, xx⟩ := ly3 Rx_7.out
  go_wp2_with fail
  refine (bits_b (L7.out.get (A := A) (c := c) (xs := digs m.natAbs) (by simp)) (Nat.le_trans lx.out (by omega)) HZ1.out).mono ?_
  rintro e w8 ⟨rfl, rfl⟩
  have hmax := HMAX.out
  clear fx0 zx0 fx1 zx1 fx2 zx2 xx
  obtain ⟨fx0, zx0, fx1, zx1, fx2, zx2, xx⟩ := ly3 Rx_7.out
  go_wp2_with fail
  rw [HKO.out]
  clear hmax
  refine (lift_n (N := N) (L7.out.get (A := A) (c := c) (xs := digs m.natAbs) (by simp)) (Nat.le_trans lx.out (by omega)) HKK.out HKB.out HN.out).mono ?_
  rintro e w9 ⟨A9, c9, rfl, hd, hb⟩
  have L9 := la L7 hb hd
  clear fx0 zx0 fx1 zx1 fx2 zx2 xx
  have Rx_9 := co Rx_7 hb
  have Rr_9 := co Rr_7 hb
  have Rsl_9 := co Rsl_7 hb
  have Rk_9 := co Rk_7 hb
  clear hb hd
  go_wp2_with fail
  refine (DM.out _ _ _ (L9.out.get (A := A9) (c := c9) (xs := digs N) (by simp))).mono ?_
  rintro e w10 ⟨A10, c10, B10, d10, rfl, hd, hd', hb⟩
  have L10 := Lib.hid (((L9.out.step hb).add hd).add hd')
  have Rx_10 := co Rx_9 hb
  have Rr_10 := co Rr_9 hb
  have Rsl_10 := co Rsl_9 hb
  have Rk_10 := co Rk_9 hb
  clear hb hd hd'
  have hq2 := HQ2.out
  have HMO2 := HMO.out
  obtain ⟨fx0, zx0, fx1, zx1, fx2, zx2, xx⟩ := ly3 Rx_10.out
  go_wp2_with fail
  obtain ⟨w11, hW, hb, Rq_11⟩ := new1 w10 (.cells #[.bool false, .slice A10 (digs Q).length c10, .int .i64 hf] 26)
  rw [← hW]
  have L11 := ls L10 hb
  have Rx_11 := co Rx_10 hb
  have Rr_11 := co Rr_10 hb
  have Rsl_11 := co Rsl_10 hb
  have Rk_11 := co Rk_10 hb
  have Gq := gl0 L10.out
  have Nxq := nl0 Rx_10.out
  have Nrq := nl0 Rr_10.out
  have Nslq := nl0 Rsl_10.out
  have Nkq := nl0 Rk_10.out
  clear hW hb
  clear fx0 zx0 fx1 zx1 fx2 zx2 xx
  refine (cut_any A10 c10 false up mo Q hf P p M E _ (L11.out.get (A := A10) (c := c10) (xs := digs Q) (by simp)) LQ.out (t32_live HT.out L11.out) HP2.out p2 p4 HB.out (by omega) (by omega) HM.out HE.out).mono ?_
  rintro e w12 ⟨A12, c12, rfl, hd, hb⟩
  have L12 := la L11 hb hd
  have Rx_12 := co Rx_11 hb
  have Rr_12 := co Rr_11 hb
  have Rsl_12 := co Rsl_11 hb
  have Rk_12 := co Rk_11 hb
  have Rq_12 := co Rq_11 hb
  clear hb hd
  clear hq2 HMO2
  go_wp2_with fail
  refine (answer_d (row_c Rk_12.out (i := 0) rfl) (heap_lt Rk_12.out) (L12.out.get (A := A12) (c := c12) (xs := digs M.natAbs) (by simp)) (Nat.le_trans LM.out (by omega)) HQ.out).mono ?_
  rintro e w13 ⟨A13, c13, rfl, hd, hb⟩
  have L13 := la L12 hb hd
  have Rx_13 := co Rx_12 hb
  have Rr_13 := co Rr_12 hb
  have Rsl_13 := co Rsl_12 hb
  have Rk_13 := co Rk_12 hb
  have Rq_13 := co Rq_12 hb
  clear hb hd
  obtain ⟨fr0, zr0, fr1, zr1, fr2, zr2, xr⟩ := ly3 Rr_13.out
  go_wp2
  refine bodyPost_ret (v := .tuple #[.agg #[.bool (decide (M < 0)), .slice A13 (digs M.natAbs).length c13, .int .i64 E], .int .i64 0]) (by simp [results, Tryd.results35, go_sem, fr0, fr1, fr2]) rfl ?_
  
  refine ⟨A13, c13, rfl, ?_, ?_⟩
  · exact (fin3 L13.out Rr_13.out noint3 Gr).get (A := A13) (c := c13) (xs := digs M.natAbs) (by simp)
  · exact (fin3 L13.out Rr_13.out noint3 Gr).1

theorem dsqrt_yes {A : Option Addr} {c : Nat} {m x P M E : Int} {up : Bool} {w : World} (h : Dg w A c (digs m.natAbs)) (hl : (digs m.natAbs).length ≤ 10000) (r1 : Rt m x) (hT : T32 w) {p : Nat} (hP : (p : Int) = P) (p2 : 2 ≤ p) (p4 : p ≤ 400) (hs : RsOf (dv m x) p up M E) (hq : inR M E = true) (m0 : 0 ≤ m) :
    Calls Tryd.prog 35 #[.agg #[.bool (decide (m < 0)), .slice A (digs m.natAbs).length c, .int .i64 x], .int .i64 P, .bool up] w fun e w' => Ye M E 0 w e w' := by
  by_cases h0 : m = 0
  · exact sqrt_z_ A c m x P M E up w h hl r1 hT hP p2 p4 hs hq h0
  · exact sqrt_b_ A c m x P M E up w h hl r1 hT hP p2 p4 hs hq (by omega)
theorem div_yes {A B : Option Addr} {c d : Nat} {m n x y P M E : Int} {up : Bool} {w : World} (h : Dg w A c (digs m.natAbs)) (h' : Dg w B d (digs n.natAbs)) (hl : (digs m.natAbs).length ≤ 10000) (hl' : (digs n.natAbs).length ≤ 10000) (r1 : Rt m x) (r2 : Rt n y) (hT : T32 w) {p : Nat} (hP : (p : Int) = P) (p2 : 2 ≤ p) (p4 : p ≤ 400) (n0 : n ≠ 0) (hs : RdOf (dv m x / dv n y) p up M E) (hq : inR M E = true) :
    Calls Tryd.prog 33 #[.agg #[.bool (decide (m < 0)), .slice A (digs m.natAbs).length c, .int .i64 x], .agg #[.bool (decide (n < 0)), .slice B (digs n.natAbs).length d, .int .i64 y], .int .i64 P, .bool up] w fun e w' => Ye M E 0 w e w' := by
  by_cases m0 : m = 0
  · exact div_z_ A B c d m n x y P M E up w h h' hl hl' r1 r2 hT hP p2 p4 n0 hs hq m0
  · exact div_b_ A B c d m n x y P M E up w h h' hl hl' r1 r2 hT hP p2 p4 n0 hs hq m0
end Go.Proofs.YtaciohjobenipaaDoor
end

section
/-
  Plain arithmetic: how great what is reckoned of numbers is.
-/
namespace Go.Proofs.YtaciohjobenipaaDoor
set_option linter.unusedVariables false
/-- A number's exponent is L at least, its size H at most. -/
def Bd (L H M E : Int) : Prop := Nf M E ∧ (M = 0 ∨ (L ≤ E ∧ E + bl M ≤ H))
theorem bl_pos {M : Int} (h : M ≠ 0) : 0 < bl M := by
  have := (blen_bd M.natAbs (by omega)).2.2
  unfold bl; omega
theorem Bd.inR {L H M E : Int} (h : Bd L H M E) (hL : -65536 ≤ L) (hH : H ≤ 65536) : inR M E = true := by
  unfold Go.Proofs.YtaciohjobenipaaDoor.inR
  rw [decide_eq_true_eq]
  rcases h.2 with h0 | ⟨a, b⟩
  · exact .inl h0
  · by_cases hm : M = 0
    · exact .inl hm
    · have := bl_pos hm
      right; omega
theorem Bd.mono {L H L' H' M E : Int} (h : Bd L H M E) (hL : L' ≤ L) (hH : H ≤ H') : Bd L' H' M E := by
  refine ⟨h.1, ?_⟩
  rcases h.2 with h0 | ⟨a, b⟩
  · exact .inl h0
  · exact .inr ⟨by omega, by omega⟩
/-- Between powers of 2. -/
theorem sz_bd {M E a b : Int} (h : M ≠ 0) (ha : 2 ^ a ≤ (dv M E).abs) (hb : (dv M E).abs < 2 ^ b) : a < E + bl M ∧ E + bl M ≤ b := by
  have ⟨h1, h2⟩ := sz_dv (e := E) h
  have x := zpow_lt.1 (rle_lt ha h2)
  have y := zpow_lt.1 (rle_lt h1 hb)
  omega
theorem Bd.of {m e L H : Int} (hL : L ≤ e) (hH : e + bl m ≤ H) {M E : Int} (h : IsD (dv m e) M E) : Bd L H M E := by
  obtain ⟨rfl, rfl⟩ := h.of
  refine ⟨nf_n m e, ?_⟩
  by_cases h0 : m = 0
  · left; rw [h0]; rfl
  · right
    have := bl_nm m e
    rw [if_neg h0] at this
    have h3 : nx m e = e + tz m.natAbs := by unfold nx; rw [if_neg h0]
    omega
theorem abs_le_size {L H M E : Int} (h : Bd L H M E) : (dv M E).abs ≤ 2 ^ H := by
  by_cases h0 : M = 0
  · rw [h0, dv_zero, Rat.abs_zero]; exact Rat.le_of_lt (zpow_pos _)
  · rcases h.2 with h1 | ⟨_, b⟩
    · exact absurd h1 h0
    · exact Rat.le_of_lt (rlt_le (sz_dv h0).2 (zpow_le.2 b))
theorem Bd.add {L H m x n y M E : Int} (h : Bd L H m x) (h' : Bd L H n y) (hs : IsD (dv m x + dv n y) M E) : Bd L (H + 1) M E := by
  by_cases hm : m = 0
  · rw [hm, dv_zero, Rat.zero_add] at hs
    obtain ⟨rfl, rfl⟩ := hs.uniq ⟨h'.1, rfl⟩
    exact h'.mono (by omega) (by omega)
  · by_cases hn : n = 0
    · rw [hn, dv_zero, Rat.add_zero] at hs
      obtain ⟨rfl, rfl⟩ := hs.uniq ⟨h.1, rfl⟩
      exact h.mono (by omega) (by omega)
    · have a := h.2.resolve_left hm
      have b := h'.2.resolve_left hn
      refine ⟨hs.1, ?_⟩
      by_cases hM : M = 0
      · exact .inl hM
      · right
        have hsum := sum_upto m x n y
        rw [← hsum] at hs
        obtain ⟨e1, e2⟩ := hs.of
        have hz : upto m x (min x y) + upto n y (min x y) ≠ 0 := by
          intro e; rw [e] at e1; exact hM (by rw [← e1]; rfl)
        refine ⟨?_, ?_⟩
        · rw [← e2]; unfold nx; rw [if_neg hz]; omega
        · have h2 := abs_le_size h
          have h3 := abs_le_size h'
          have h4 : (dv M E).abs < 2 ^ (H + 1) := by
            rw [hs.2, hsum]
            have s1 := (sz_dv (e := x) hm).2
            have s2 := (sz_dv (e := y) hn).2
            have s3 := zpow_le.2 a.2
            have s4 := zpow_le.2 b.2
            have s5 : (2 : Rat) ^ (H + 1) = 2 ^ H * 2 := by rw [zpow_add2, Rat.zpow_one]
            generalize dv m x = p at *
            generalize dv n y = q at *
            have t1 : (p + q).abs ≤ p.abs + q.abs := by
              rcases (Rat.le_total : 0 ≤ p ∨ p ≤ 0) with hp | hp <;> rcases (Rat.le_total : 0 ≤ q ∨ q ≤ 0) with hq | hq <;> rcases (Rat.le_total : 0 ≤ p + q ∨ p + q ≤ 0) with hr | hr <;>
                (first | rw [Rat.abs_of_nonneg hp] | rw [Rat.abs_of_nonpos hp]) <;> (first | rw [Rat.abs_of_nonneg hq] | rw [Rat.abs_of_nonpos hq]) <;> (first | rw [Rat.abs_of_nonneg hr] | rw [Rat.abs_of_nonpos hr]) <;> grind
            grind
          have h5 := zpow_lt.1 (rle_lt (sz_dv (e := E) hM).1 h4)
          omega
theorem bd_neg {L H m x : Int} (h : Bd L H m x) : Bd L H (-m) x := by
  refine ⟨by rcases h.1 with h1 | h1; exact .inl (by omega); exact .inr (by omega), ?_⟩
  rcases h.2 with h1 | h1
  · left; omega
  · right; unfold bl at *; rw [Int.natAbs_neg]; exact h1
theorem Bd.sub {L H m x n y M E : Int} (h : Bd L H m x) (h' : Bd L H n y) (hs : IsD (dv m x - dv n y) M E) : Bd L (H + 1) M E :=
  h.add (bd_neg h') (by rw [dv_neg, ← Rat.sub_eq_add_neg]; exact hs)
theorem bl_mul (m n : Int) : bl (m * n) ≤ bl m + bl n := by
  unfold bl
  rw [Int.natAbs_mul]
  by_cases hm : m.natAbs = 0
  · rw [hm, Nat.zero_mul, blen_zero]; omega
  · by_cases hn : n.natAbs = 0
    · rw [hn, Nat.mul_zero, blen_zero]; omega
    · refine blen_le ?_
      rw [Nat.pow_add]
      have a := (blen_bd _ hm).2.1
      have b := (blen_bd _ hn).2.1
      exact Nat.lt_of_le_of_lt (Nat.mul_le_mul_right _ (Nat.le_of_lt a)) (Nat.mul_lt_mul_of_pos_left b (Nat.pow_pos (by omega)))
theorem Bd.mul {L H L' H' m x n y M E : Int} (h : Bd L H m x) (h' : Bd L' H' n y) (hs : IsD (dv m x * dv n y) M E) : Bd (L + L') (H + H') M E := by
  rw [dv_mul] at hs
  by_cases hm : m = 0
  · obtain ⟨rfl, rfl⟩ := hs.of; refine ⟨nf_n _ _, .inl ?_⟩; rw [hm, Int.zero_mul]; rfl
  · by_cases hn : n = 0
    · obtain ⟨rfl, rfl⟩ := hs.of; refine ⟨nf_n _ _, .inl ?_⟩; rw [hn, Int.mul_zero]; rfl
    · have a := h.2.resolve_left hm
      have b := h'.2.resolve_left hn
      have := bl_mul m n
      exact Bd.of (by omega) (by omega) hs
theorem Bd.scale {L H m x n M E : Int} (h : Bd L H m x) (hs : IsD (dv m (x + n)) M E) : Bd (L + n) (H + n) M E := by
  by_cases hm : m = 0
  · obtain ⟨rfl, rfl⟩ := hs.of; refine ⟨nf_n _ _, .inl ?_⟩; rw [hm]; rfl
  · have a := h.2.resolve_left hm
    exact Bd.of (by omega) (by omega) hs
theorem rd_bd {L H M E : Int} {r : Rat} {p : Nat} {up : Bool} (h1 : 1 ≤ p) (h : RdOf r p up M E) (hr : r = 0 ∨ (2 ^ L ≤ r.abs ∧ r.abs < 2 ^ H)) : Bd (L - p) (H + 1) M E := by
  obtain ⟨n, ⟨_, h0⟩ | ⟨s, t, hs, ht, hv⟩⟩ := h
  · exact ⟨n, .inl h0⟩
  · rcases hr with h0 | ⟨hlo, hhi⟩
    · exact absurd h0 hs.ne
    · have x1 := zpow_lt.1 (rle_lt hlo hs.2)
      have x2 := zpow_lt.1 (rle_lt hs.1 hhi)
      have ⟨c1, c2⟩ := rn_abs hs ht
      have hbt : bl t ≤ p + 1 := by
        unfold bl; exact blen_le (Nat.lt_of_le_of_lt c1 (Nat.pow_lt_pow_right (by omega) (by omega)))
      exact Bd.of (m := t) (e := s) (by omega) (by omega) ⟨n, hv⟩
theorem Bd.round {L H m x M E : Int} {p : Nat} {up : Bool} (h1 : 1 ≤ p) (h : Bd L H m x) (hr : RdOf (dv m x) p up M E) : Bd (L - p) (H + 1) M E := by
  refine rd_bd h1 hr ?_
  by_cases hm : m = 0
  · left; rw [hm, dv_zero]
  · right
    have a := h.2.resolve_left hm
    have ⟨s1, s2⟩ := sz_dv (e := x) hm
    have := bl_pos hm
    exact ⟨Rat.le_trans (zpow_le.2 (by omega)) s1, rlt_le s2 (zpow_le.2 a.2)⟩
theorem rd_exists (m x : Int) (hn : Nf m x) (p : Nat) (up : Bool) (h1 : 1 ≤ p) : ∃ M E, RdOf (dv m x) p up M E := by
  by_cases hc : bl m ≤ p
  · exact ⟨m, x, rd_self hn hc⟩
  · have ⟨hs, hr⟩ := kept_rn (q := m.natAbs) (p := p) (more := false) (away := (up != decide (m < 0))) (r := dv (m.natAbs : Int) x) (e := x) (by unfold bl at hc; omega) h1 Rat.le_refl (dv_lt.2 (by omega)) (by simp)
    by_cases hneg : m < 0
    · have e : dv m x = -dv (m.natAbs : Int) x := by rw [← dv_neg]; congr 1; omega
      have h2 := hr.neg
      rw [show decide (m < 0) = true by simpa using hneg] at h2
      have e1 : (!(up != true)) = up := by cases up <;> rfl
      rw [e1] at h2
      refine ⟨_, _, nf_n _ _, .inr ⟨_, _, ?_, by rw [e]; exact h2, dv_n _ _⟩⟩
      rw [e]; unfold Sz at hs ⊢; rw [Rat.abs_neg]; exact hs
    · have e : dv m x = dv (m.natAbs : Int) x := by congr 1; omega
      rw [show decide (m < 0) = false by simpa using hneg] at hr
      have e1 : (up != false) = up := by cases up <;> rfl
      rw [e1] at hr
      exact ⟨_, _, nf_n _ _, .inr ⟨_, _, by rw [e]; exact hs, by rw [e]; exact hr, dv_n _ _⟩⟩
theorem isD_ex (m x : Int) : ∃ M E, IsD (dv m x) M E := ⟨_, _, isD_n m x⟩
theorem isD_add (m x n y : Int) : ∃ M E, IsD (dv m x + dv n y) M E := ⟨_, _, by rw [← sum_upto m x n y]; exact isD_n _ _⟩
theorem isD_sub (m x n y : Int) : ∃ M E, IsD (dv m x - dv n y) M E := by
  obtain ⟨M, E, h⟩ := isD_add m x (-n) y
  exact ⟨M, E, by rw [dv_neg, ← Rat.sub_eq_add_neg] at h; exact h⟩
theorem isD_mul (m x n y : Int) : ∃ M E, IsD (dv m x * dv n y) M E := ⟨_, _, by rw [dv_mul]; exact isD_n _ _⟩
/-- Rounded both ways: the same just if it has as few bits. -/
theorem rd_low {m x M E : Int} {p : Nat} {up : Bool} (h1 : 1 ≤ p) (hn : Nf m x) (h : RdOf (dv m x) p up M E) : decide (M = m ∧ E = x) = decide (bl m ≤ p) := by
  rw [decide_eq_decide]
  constructor
  · rintro ⟨rfl, rfl⟩; exact h.bits h1
  · intro hb; exact h.uniq (rd_self hn hb)
end Go.Proofs.YtaciohjobenipaaDoor
end

section
/-
  Div by 0, Sqrt below 0, Cmp with 0; that there are quotients and roots.
-/
namespace Go.Proofs.YtaciohjobenipaaDoor
open Go.RowKit
set_option linter.unusedSimpArgs false
set_option linter.unusedVariables false
theorem dv_scale (m e k : Int) : dv m (e + k) = dv m e * 2 ^ k := by
  unfold dv; rw [zpow_add2]; grind
theorem rabs_mul (a b : Rat) : (a * b).abs = a.abs * b.abs := by
  rcases (Rat.le_total : 0 ≤ a ∨ a ≤ 0) with ha | ha <;> rcases (Rat.le_total : 0 ≤ b ∨ b ≤ 0) with hb | hb
  · rw [Rat.abs_of_nonneg ha, Rat.abs_of_nonneg hb, Rat.abs_of_nonneg (Rat.mul_nonneg ha hb)]
  · rw [Rat.abs_of_nonneg ha, Rat.abs_of_nonpos hb, Rat.abs_of_nonpos (by have := Rat.mul_nonneg ha (show 0 ≤ -b by grind); grind)]; grind
  · rw [Rat.abs_of_nonpos ha, Rat.abs_of_nonneg hb, Rat.abs_of_nonpos (by have := Rat.mul_nonneg (show 0 ≤ -a by grind) hb; grind)]; grind
  · rw [Rat.abs_of_nonpos ha, Rat.abs_of_nonpos hb, Rat.abs_of_nonneg (by have := Rat.mul_nonneg (show 0 ≤ -a by grind) (show 0 ≤ -b by grind); grind)]; grind
/-- A number that is not 0 lies between powers of 2. -/
theorem Bd.size {L H m x : Int} (h : Bd L H m x) (m0 : m ≠ 0) : 2 ^ L ≤ (dv m x).abs ∧ (dv m x).abs < 2 ^ H := by
  have a := h.2.resolve_left m0
  have ⟨s1, s2⟩ := sz_dv (e := x) m0
  have := bl_pos m0
  exact ⟨Rat.le_trans (zpow_le.2 (by omega)) s1, rlt_le s2 (zpow_le.2 a.2)⟩
theorem quot_bd {a b r : Rat} {L H L' H' : Int} (hr : r * b = a) (h1 : 2 ^ L ≤ a.abs) (h2 : a.abs < 2 ^ H) (h3 : 2 ^ L' ≤ b.abs) (h4 : b.abs < 2 ^ H') : 2 ^ (L - H') ≤ r.abs ∧ r.abs < 2 ^ (H - L') := by
  rw [← hr, rabs_mul] at h1 h2
  have hb : 0 < b.abs := rlt_le (zpow_pos L') h3
  constructor
  · refine Rat.le_of_mul_le_mul_right (c := b.abs) ?_ hb
    refine Rat.le_trans ?_ h1
    have e : (2 : Rat) ^ L = 2 ^ (L - H') * 2 ^ H' := by rw [← zpow_add2]; congr 1; omega
    rw [e]
    exact Rat.mul_le_mul_of_nonneg_left (Rat.le_of_lt h4) (Rat.le_of_lt (zpow_pos _))
  · refine Rat.lt_of_mul_lt_mul_right (c := b.abs) ?_ (Rat.le_of_lt hb)
    refine rlt_le h2 ?_
    have e : (2 : Rat) ^ H = 2 ^ (H - L') * 2 ^ L' := by rw [← zpow_add2]; congr 1; omega
    rw [e]
    exact Rat.mul_le_mul_of_nonneg_left h3 (Rat.le_of_lt (zpow_pos _))
theorem Bd.div {L H L' H' m x n y M E : Int} {p : Nat} {up : Bool} (h1 : 1 ≤ p) (h : Bd L H m x) (h' : Bd L' H' n y) (n0 : n ≠ 0) (hr : RdOf (dv m x / dv n y) p up M E) : Bd (L - H' - p) (H - L' + 1) M E := by
  refine rd_bd h1 hr ?_
  have hn : dv n y ≠ 0 := fun e => n0 (dv_eq0.1 e)
  by_cases hm : m = 0
  · left; rw [hm, dv_zero, Rat.div_def, Rat.zero_mul]
  · right
    have a := h.size hm
    have b := h'.size n0
    exact quot_bd (Rat.div_mul_cancel hn) a.1 a.2 b.1 b.2
theorem div_exists {m n x y : Int} (hn : n ≠ 0) {p : Nat} (h1 : 1 ≤ p) (up : Bool) : ∃ M E, RdOf (dv m x / dv n y) p up M E := by
  by_cases h0 : m = 0
  · exact ⟨0, 0, .inl ⟨rfl, rfl⟩, .inl ⟨by rw [h0, dv_zero, Rat.div_def, Rat.zero_mul], rfl⟩⟩
  · exact ⟨_, _, (div_kept (k := p + blen n.natAbs) (more := decide (m.natAbs * 2 ^ (p + blen n.natAbs) % n.natAbs ≠ 0)) (up := up) h0 hn h1 (by omega) rfl).2⟩
theorem RsOf.self {m x : Int} {p : Nat} (h1 : 1 ≤ p) (hn : Nf m x) (h0 : 0 ≤ m) (hb : bl m ≤ p) : RsOf (dv m x * dv m x) p false m x := by
  refine ⟨hn, ?_⟩
  by_cases hm : m = 0
  · left; rw [hm, dv_zero]; exact ⟨Rat.zero_mul 0, rfl⟩
  · right
    have e : dv (m * 2 ^ (p - bl m)) (x - (p - bl m : Nat)) = dv m x := by
      rw [dv_pow]; congr 1; omega
    have ⟨a, b, _⟩ := blen_bd m.natAbs (by omega)
    have hbl : blen m.natAbs = bl m := rfl
    have hp := bl_pos hm
    rw [hbl] at a b
    have hma : (m.natAbs : Int) = m := by omega
    refine ⟨x - (p - bl m : Nat), m * 2 ^ (p - bl m), ?_, ?_, ?_, ?_, ?_⟩
    · have : 2 ^ (bl m - 1) * 2 ^ (p - bl m) ≤ m.natAbs * 2 ^ (p - bl m) := Nat.mul_le_mul_right _ a
      rw [← Nat.pow_add, show bl m - 1 + (p - bl m) = p - 1 by omega] at this
      rw [← hma]; exact_mod_cast this
    · have : m.natAbs * 2 ^ (p - bl m) < 2 ^ bl m * 2 ^ (p - bl m) := Nat.mul_lt_mul_of_pos_right b (Nat.pow_pos (by omega))
      rw [← Nat.pow_add, show bl m + (p - bl m) = p by omega] at this
      rw [← hma]; exact_mod_cast this
    · rw [e]; exact Rat.le_refl
    · rw [← e]
      have h2 : dv (m * 2 ^ (p - bl m)) (x - (p - bl m : Nat)) < dv (m * 2 ^ (p - bl m) + 1) (x - (p - bl m : Nat)) := dv_lt.2 (by omega)
      have h3 : 0 ≤ dv (m * 2 ^ (p - bl m)) (x - (p - bl m : Nat)) := by rw [e]; exact dv_nonneg.2 h0
      generalize dv (m * 2 ^ (p - bl m)) (x - (p - bl m : Nat)) = a at *
      generalize dv (m * 2 ^ (p - bl m) + 1) (x - (p - bl m : Nat)) = b at *
      have h4 : a * a ≤ a * b := Rat.mul_le_mul_of_nonneg_left (Rat.le_of_lt h2) h3
      have h5 : b * a < b * b := Rat.mul_lt_mul_of_pos_left h2 (by grind)
      grind
    · rw [← e]; simp
theorem sqrt_exists {m x : Int} (h0 : 0 ≤ m) {p : Nat} (h1 : 1 ≤ p) (up : Bool) : ∃ M E, RsOf (dv m x) p up M E := by
  by_cases hm : m = 0
  · exact ⟨0, 0, .inl ⟨rfl, rfl⟩, .inl ⟨by rw [hm, dv_zero], rfl⟩⟩
  · obtain ⟨k, hk1, hk2⟩ : ∃ k : Nat, 2 * p ≤ k ∧ (x - k) % 2 = 0 := by
      by_cases hx : (x - (2 * p : Nat)) % 2 = 0
      · exact ⟨2 * p, Nat.le_refl _, hx⟩
      · exact ⟨2 * p + 1, by omega, by omega⟩
    exact ⟨_, _, (sqrt_kept (k := k) (h := (x - k) / 2) (more := decide (m.natAbs * 2 ^ k - rt (m.natAbs * 2 ^ k) * rt (m.natAbs * 2 ^ k) ≠ 0)) (up := up) (by omega) h1 (by omega) (by omega) rfl).2⟩
theorem RsOf.nonneg {X : Rat} {p : Nat} {up : Bool} {M E : Int} (h : RsOf X p up M E) : 0 ≤ M := by
  rcases h.2 with ⟨_, h0⟩ | ⟨s, t, ht, _, _, _, hv⟩
  · omega
  · have hp : (0 : Int) < 2 ^ (p - 1) := Int.pow_pos (by omega)
    have : 0 ≤ dv M E := by rw [hv]; exact dv_nonneg.2 (by split <;> omega)
    exact dv_nonneg.1 this
theorem RsOf.le {X : Rat} {p : Nat} {M E : Int} (h : RsOf X p false M E) : dv M E * dv M E ≤ X := by
  rcases h.2 with ⟨h1, h0⟩ | ⟨s, t, ht, _, h3, _, hv⟩
  · rw [h0, dv_zero, h1]; grind
  · rw [hv]; simpa using h3
theorem RsOf.ge {X : Rat} {p : Nat} {M E : Int} (h : RsOf X p true M E) : X ≤ dv M E * dv M E := by
  rcases h.2 with ⟨h1, h0⟩ | ⟨s, t, ht, _, h3, h4, hv⟩
  · rw [h0, dv_zero, h1]; grind
  · rw [hv]
    by_cases he : dv t s * dv t s = X
    · simp [he]
    · simp [he]; exact Rat.le_of_lt h4
theorem rsq_pow (k : Int) : (2 : Rat) ^ k * 2 ^ k = 2 ^ (2 * k) := by rw [← zpow_add2]; congr 1; omega
theorem Bd.root {L H m x M E : Int} {p : Nat} {up : Bool} (h1 : 1 ≤ p) (h : Bd L H m x) (hr : RsOf (dv m x) p up M E) (hL : L ≤ 0) (hH : 0 ≤ H) : Bd (L - p) (H + 3) M E := by
  refine ⟨hr.1, ?_⟩
  rcases hr.2 with ⟨_, h0⟩ | ⟨s, t, ht1, ht2, h3, h4, hv⟩
  · exact .inl h0
  · by_cases hM : M = 0
    · exact .inl hM
    · have hp1 : (2 : Int) ^ p = 2 ^ (p - 1) * 2 := by rw [← Int.pow_succ]; congr 1; omega
      have hpp : (0 : Int) < 2 ^ (p - 1) := Int.pow_pos (by omega)
      have hm : m ≠ 0 := by
        rintro rfl
        rw [dv_zero] at h3
        have : 0 < dv t s := dv_pos.2 (by omega)
        have := Rat.mul_pos this this
        grind
      have hb := h.size hm
      have hx : 0 ≤ dv m x := by
        refine Rat.le_trans ?_ h3
        have : 0 ≤ dv t s := dv_nonneg.2 (by omega)
        exact Rat.mul_nonneg this this
      rw [Rat.abs_of_nonneg hx] at hb
      -- the root's least bit
      have c1 : (2 : Rat) ^ (s + (p - 1 : Nat)) ≤ dv t s := by
        rw [← dv_two]; exact dv_le.2 (by exact_mod_cast ht1)
      have c2 : dv (t + 1) s ≤ 2 ^ (s + (p : Nat)) := by
        rw [← dv_two]; exact dv_le.2 (by have : t < 2 ^ p := by exact_mod_cast ht2
                                         exact_mod_cast this)
      have d1 : (2 : Rat) ^ (2 * (s + (p - 1 : Nat))) < 2 ^ H := by
        rw [← rsq_pow]
        exact rle_lt (Rat.le_trans (rsq_le (Rat.le_of_lt (zpow_pos _)) c1) h3) hb.2
      have d2 : (2 : Rat) ^ L < 2 ^ (2 * (s + (p : Nat))) := by
        rw [← rsq_pow]
        refine rle_lt hb.1 (rlt_le h4 (rsq_le (dv_nonneg.2 (by omega)) c2))
      have e1 := zpow_lt.1 d1
      have e2 := zpow_lt.1 d2
      have hT : (t + (if up && decide (dv t s * dv t s ≠ dv m x) then 1 else 0)).natAbs ≤ 2 ^ p := by
        have : (2 : Int) ^ p = ((2 ^ p : Nat) : Int) := by push_cast; rfl
        split <;> omega
      have hbt : bl (t + (if up && decide (dv t s * dv t s ≠ dv m x) then 1 else 0)) ≤ p + 1 := by
        unfold bl; exact blen_le (Nat.lt_of_le_of_lt hT (Nat.pow_lt_pow_right (by omega) (by omega)))
      have := (Bd.of (m := t + (if up && decide (dv t s * dv t s ≠ dv m x) then 1 else 0)) (e := s) (L := L - p) (H := H + 3) (by omega) (by omega) (M := M) (E := E) ⟨hr.1, hv⟩)
      exact this.2

set_option maxHeartbeats 4000000 in
set_option maxRecDepth 100000 in
theorem div_no (A B : Option Addr) (c d : Nat) (m n x y P Z : Int) (up : Bool) (w : World) (h : Dg w A c (digs m.natAbs)) (h' : Dg w B d (digs n.natAbs)) (hl : (digs m.natAbs).length ≤ 10000) (hl' : (digs n.natAbs).length ≤ 10000) (r1 : Rt m x) (r2 : Rt n y) (p2 : 2 ≤ P) (p4 : P ≤ 400) (n0 : n = 0) (hZ : Z = 0):
    Calls Tryd.prog 33 #[.agg #[.bool (decide (m < 0)), .slice A (digs m.natAbs).length c, .int .i64 x], .agg #[.bool (decide (n < 0)), .slice B (digs n.natAbs).length d, .int .i64 y], .int .i64 P, .bool up] w fun e w' => Ye Z Z 3 w e w' := by
  have HR1 := Lib.hid r1
  have HR2 := Lib.hid r2
  have lx := Lib.hid hl
  have ly := Lib.hid hl'
  have HPR := Lib.hid (precB_in p2 p4)
  have D2 := Lib.hid (show decide (n = 0) = true by simp [n0])
  have L0 := Lib.hid (((live_start w).add h).add h')
  clear h h' hl hl' r1 r2 n0 p2 p4
  go_enter Tryd.func33, Tryd.ntmps33
  go_wp2_with fail
  obtain ⟨v1, hW, hb, Rx_1, Ry_1, Rr_1, Rsl_1⟩ := new4 w (.cells #[.bool (decide (m < 0)), .slice A (digs m.natAbs).length c, .int .i64 x] 26) (.cells #[.bool (decide (n < 0)), .slice B (digs n.natAbs).length d, .int .i64 y] 26) (.cells #[.bool false, .slice none 0 0, .int .i64 0] 26) (.cells #[.bool (decide (m < 0)), .slice A (digs m.natAbs).length c, .int .i64 x, .bool (decide (n < 0)), .slice B (digs n.natAbs).length d, .int .i64 y] 26)
  rw [← hW]
  have L1 := ls L0 hb
  have Gx := gl0 L0.out
  have Gy := gl1 L0.out
  have Nxy : w.heap.size < w.heap.size + 1 := by omega
  have Gr := gl2 L0.out
  have Nxr : w.heap.size < w.heap.size + 1 + 1 := by omega
  have Nyr : w.heap.size + 1 < w.heap.size + 1 + 1 := by omega
  have Gsl := gl3 L0.out
  have Nxsl : w.heap.size < w.heap.size + 1 + 1 + 1 := by omega
  have Nysl : w.heap.size + 1 < w.heap.size + 1 + 1 + 1 := by omega
  have Nrsl : w.heap.size + 1 + 1 < w.heap.size + 1 + 1 + 1 := by omega
  clear hW hb
  refine (begin_2 Rsl_1.out (L1.out.get (A := A) (c := c) (xs := digs m.natAbs) (by simp)) (L1.out.get (A := B) (c := d) (xs := digs n.natAbs) (by simp)) (dyR_num HR1.out) (dyR_num HR2.out) (Nat.le_trans lx.out (by omega)) (Nat.le_trans ly.out (by omega)) (k := 0) rfl).mono ?_
  rintro e w2 ⟨rfl, hb⟩
  have L2 := ls L1 hb
  have Rx_2 := co Rx_1 hb
  have Ry_2 := co Ry_1 hb
  have Rr_2 := co Rr_1 hb
  have Rsl_2 := co Rsl_1 hb
  clear hb 
  go_wp2_with fail
  obtain ⟨w3, hW, hb, Rk_3⟩ := new1 w2 (.cells #[.int .i64 0] 66)
  rw [← hW]
  have L3 := ls L2 hb
  have Rx_3 := co Rx_2 hb
  have Ry_3 := co Ry_2 hb
  have Rr_3 := co Rr_2 hb
  have Rsl_3 := co Rsl_2 hb
  have Gk := gl0 L2.out
  have Nxk := nl0 Rx_2.out
  have Nyk := nl0 Ry_2.out
  have Nrk := nl0 Rr_2.out
  have Nslk := nl0 Rsl_2.out
  clear hW hb
  refine (precision_no _ 0 P _ (row_c Rk_3.out (i := 0) rfl) (.inl HPR.out)).mono ?_
  rintro e w4 ⟨rfl, rfl⟩
  obtain ⟨fy0, zy0, fy1, zy1, fy2, zy2, xy⟩ := ly3 Ry_3.out
  go_wp2_with fail
  refine (isz_d (x := y) D2.out).mono ?_
  rintro e w5 ⟨rfl, hb⟩
  have L5 := ls L3 hb
  clear fy0 zy0 fy1 zy1 fy2 zy2 xy
  have Rx_5 := co Rx_3 hb
  have Ry_5 := co Ry_3 hb
  have Rr_5 := co Rr_3 hb
  have Rsl_5 := co Rsl_3 hb
  have Rk_5 := co Rk_3 hb
  clear hb 
  go_wp2_with fail
  refine (tell_yes _ 3 _ (row_c Rk_5.out (i := 0) rfl) (frozen_of_row _ _ 0 _ _ Rk_5.out)).mono ?_
  rintro e w6 ⟨rfl, rfl⟩
  obtain ⟨w7, hW⟩ : ∃ W : World, W = (w5.setCell ⟨w2.heap.size, 0, none⟩ (.int .i64 3)) := ⟨_, rfl⟩
  rw [← hW]
  have hO : Only (w2.heap.size) w5 w7 := by rw [hW]; exact ((Only.refl (w2.heap.size) w5).setCell 0 _)
  have L7 := Lib.hid (live_only L5.out hO Rk_5.out noint_re Gk)
  have Rx_7 := Lib.hid ((hO.block _ (by omega)).trans Rx_5.out)
  have Ry_7 := Lib.hid ((hO.block _ (by omega)).trans Ry_5.out)
  have Rr_7 := Lib.hid ((hO.block _ (by omega)).trans Rr_5.out)
  have Rsl_7 := Lib.hid ((hO.block _ (by omega)).trans Rsl_5.out)
  have Rk_7 := Lib.hid (show w7.heap[w2.heap.size]? = some (.cells #[.int .i64 3] 66 (0, 0)) by rw [hW]; exact (heap_setCell_same _ _ 0 _ _ _ Rk_5.out))
  clear hW hO
  go_wp2_with fail
  refine (fails_any _ 3 true _ (row_c Rk_7.out (i := 0) rfl) rfl).mono ?_
  rintro e w8 ⟨rfl, rfl⟩
  go_wp2_with fail
  refine (none_any _ 3 _ (row_c Rk_7.out (i := 0) rfl) (heap_lt Rk_7.out)).mono ?_
  rintro e w9 ⟨rfl, hb⟩
  have L9 := ls L7 hb
  have Rx_9 := co Rx_7 hb
  have Ry_9 := co Ry_7 hb
  have Rr_9 := co Rr_7 hb
  have Rsl_9 := co Rsl_7 hb
  have Rk_9 := co Rk_7 hb
  clear hb 
  obtain ⟨fr0, zr0, fr1, zr1, fr2, zr2, xr⟩ := ly3 Rr_9.out
  go_wp2
  refine bodyPost_ret (v := .tuple #[.agg #[.bool false, .slice none 0 0, .int .i64 0], .int .i64 3]) (by simp [results, Tryd.results33, go_sem, fr0, fr1, fr2]) rfl ?_
  
  subst hZ
  exact zero_ye (fin3 L9.out Rr_9.out noint3 Gr).1

set_option maxHeartbeats 4000000 in
set_option maxRecDepth 100000 in
theorem sqrt_no (A : Option Addr) (c : Nat) (m x P Z : Int) (up : Bool) (w : World) (h : Dg w A c (digs m.natAbs)) (hl : (digs m.natAbs).length ≤ 10000) (r1 : Rt m x) (p2 : 2 ≤ P) (p4 : P ≤ 400) (m0 : m < 0) (hZ : Z = 0):
    Calls Tryd.prog 35 #[.agg #[.bool (decide (m < 0)), .slice A (digs m.natAbs).length c, .int .i64 x], .int .i64 P, .bool up] w fun e w' => Ye Z Z 3 w e w' := by
  have HR1 := Lib.hid r1
  have lx := Lib.hid hl
  have HPR := Lib.hid (precB_in p2 p4)
  have dneg : decide (m < 0) = true := by simpa using m0
  have HNEG := Lib.hid dneg
  have L0 := Lib.hid ((live_start w).add h)
  clear h hl r1 m0 p2 p4 dneg
  go_enter Tryd.func35, Tryd.ntmps35
  go_wp2_with fail
  obtain ⟨v1, hW, hb, Rx_1, Rr_1, Rsl_1⟩ := new3 w (.cells #[.bool (decide (m < 0)), .slice A (digs m.natAbs).length c, .int .i64 x] 26) (.cells #[.bool false, .slice none 0 0, .int .i64 0] 26) (.cells #[.bool (decide (m < 0)), .slice A (digs m.natAbs).length c, .int .i64 x] 26)
  rw [← hW]
  have L1 := ls L0 hb
  have Gx := gl0 L0.out
  have Gr := gl1 L0.out
  have Nxr : w.heap.size < w.heap.size + 1 := by omega
  have Gsl := gl2 L0.out
  have Nxsl : w.heap.size < w.heap.size + 1 + 1 := by omega
  have Nrsl : w.heap.size + 1 < w.heap.size + 1 + 1 := by omega
  clear hW hb
  refine (begin_1 Rsl_1.out (L1.out.get (A := A) (c := c) (xs := digs m.natAbs) (by simp)) (dyR_num HR1.out) (Nat.le_trans lx.out (by omega)) (k := 0) rfl).mono ?_
  rintro e w2 ⟨rfl, hb⟩
  have L2 := ls L1 hb
  have Rx_2 := co Rx_1 hb
  have Rr_2 := co Rr_1 hb
  have Rsl_2 := co Rsl_1 hb
  clear hb 
  go_wp2_with fail
  obtain ⟨w3, hW, hb, Rk_3⟩ := new1 w2 (.cells #[.int .i64 0] 66)
  rw [← hW]
  have L3 := ls L2 hb
  have Rx_3 := co Rx_2 hb
  have Rr_3 := co Rr_2 hb
  have Rsl_3 := co Rsl_2 hb
  have Gk := gl0 L2.out
  have Nxk := nl0 Rx_2.out
  have Nrk := nl0 Rr_2.out
  have Nslk := nl0 Rsl_2.out
  clear hW hb
  refine (precision_no _ 0 P _ (row_c Rk_3.out (i := 0) rfl) (.inl HPR.out)).mono ?_
  rintro e w4 ⟨rfl, rfl⟩
  have dneg := HNEG.out
  obtain ⟨fx0, zx0, fx1, zx1, fx2, zx2, xx⟩ := ly3 Rx_3.out
  go_wp2_with fail
  refine (tell_yes _ 3 _ (row_c Rk_3.out (i := 0) rfl) (frozen_of_row _ _ 0 _ _ Rk_3.out)).mono ?_
  rintro e w5 ⟨rfl, rfl⟩
  clear dneg
  obtain ⟨w6, hW⟩ : ∃ W : World, W = (w3.setCell ⟨w2.heap.size, 0, none⟩ (.int .i64 3)) := ⟨_, rfl⟩
  rw [← hW]
  have hO : Only (w2.heap.size) w3 w6 := by rw [hW]; exact ((Only.refl (w2.heap.size) w3).setCell 0 _)
  have L6 := Lib.hid (live_only L3.out hO Rk_3.out noint_re Gk)
  have Rx_6 := Lib.hid ((hO.block _ (by omega)).trans Rx_3.out)
  have Rr_6 := Lib.hid ((hO.block _ (by omega)).trans Rr_3.out)
  have Rsl_6 := Lib.hid ((hO.block _ (by omega)).trans Rsl_3.out)
  have Rk_6 := Lib.hid (show w6.heap[w2.heap.size]? = some (.cells #[.int .i64 3] 66 (0, 0)) by rw [hW]; exact (heap_setCell_same _ _ 0 _ _ _ Rk_3.out))
  clear hW hO
  clear fx0 zx0 fx1 zx1 fx2 zx2 xx
  go_wp2_with fail
  refine (fails_any _ 3 true _ (row_c Rk_6.out (i := 0) rfl) rfl).mono ?_
  rintro e w7 ⟨rfl, rfl⟩
  go_wp2_with fail
  refine (none_any _ 3 _ (row_c Rk_6.out (i := 0) rfl) (heap_lt Rk_6.out)).mono ?_
  rintro e w8 ⟨rfl, hb⟩
  have L8 := ls L6 hb
  have Rx_8 := co Rx_6 hb
  have Rr_8 := co Rr_6 hb
  have Rsl_8 := co Rsl_6 hb
  have Rk_8 := co Rk_6 hb
  clear hb 
  obtain ⟨fr0, zr0, fr1, zr1, fr2, zr2, xr⟩ := ly3 Rr_8.out
  go_wp2
  refine bodyPost_ret (v := .tuple #[.agg #[.bool false, .slice none 0 0, .int .i64 0], .int .i64 3]) (by simp [results, Tryd.results35, go_sem, fr0, fr1, fr2]) rfl ?_
  
  subst hZ
  exact zero_ye (fin3 L8.out Rr_8.out noint3 Gr).1

theorem dcmp0 {A : Option Addr} {c : Nat} {m x q : Int} {w : World} (h : Dg w A c (digs m.natAbs)) (hl : (digs m.natAbs).length ≤ 400000) (r1 : Rt m x) (hq : cmpd (dv m x) 0 = q) :
    Calls Tryd.prog 19 #[.agg #[.bool (decide (m < 0)), .slice A (digs m.natAbs).length c, .int .i64 x], .agg #[.bool false, .slice none 0 0, .int .i64 0]] w fun e w' => e = .returned (.int .i64 q) ∧ Below w.heap.size w w' := by
  have e : digs (0 : Int).natAbs = [] := digs_zero
  have := dcmp_any (n := 0) (y := 0) (B := none) (d := 0) h (by rw [e]; exact Dg.nil_ _ _) hl (by rw [e]; simp) r1 ⟨.inl ⟨rfl, rfl⟩, by omega, by omega⟩ (q := q) (by rw [dv_zero]; exact hq)
  rw [e] at this
  exact this
end Go.Proofs.YtaciohjobenipaaDoor
end

section
/-
  iv: words; the first error (note, got).
-/
namespace Go.Proofs.YtaciohjobenipaaDoor
open Go.RowKit
set_option linter.unusedSimpArgs false
set_option linter.unusedVariables false
theorem noint_iv {A B : Option Addr} {n c m d : Nat} {b e : Bool} {x y : Int} : ∀ (o : Nat) (k : Int), (#[Value.bool b, .slice A n c, .int .i64 x, .bool e, .slice B m d, .int .i64 y])[o]? ≠ some (.int .u32 k) := by
  intro o m; rcases o with _ | _ | _ | _ | _ | _ | o <;> simp
theorem fin6 {w0 w : World} {L : List (Option Addr × Nat × List Nat)} {g : Nat} {zs : Array Value} {T : TypeId} {a b c d e f : Value} (hL : Live w0 w L) (hg : w.heap[g]? = some (.cells zs T (0, 0))) (hz : ∀ (i : Nat) (n : Int), zs[i]? ≠ some (.int .u32 n)) (h0 : w0.heap.size ≤ g) :
    Live w0 ((((((w.setCell ⟨g, 0, none⟩ a).setCell ⟨g, 1, none⟩ b).setCell ⟨g, 2, none⟩ c).setCell ⟨g, 3, none⟩ d).setCell ⟨g, 4, none⟩ e).setCell ⟨g, 5, none⟩ f) L := live_only hL (((((((Only.refl g w).setCell 0 _).setCell 1 _).setCell 2 _).setCell 3 _).setCell 4 _).setCell 5 _) hg hz h0
/-- An answer that is a stretch. -/
def Yi (m x n y : Int) (w : World) (e : Ending) (w' : World) : Prop := ∃ A c B d, e = .returned (.agg #[.bool (decide (m < 0)), .slice A (digs m.natAbs).length c, .int .i64 x, .bool (decide (n < 0)), .slice B (digs n.natAbs).length d, .int .i64 y]) ∧ Dg w' A c (digs m.natAbs) ∧ Dg w' B d (digs n.natAbs) ∧ Below w.heap.size w w'
end Go.Proofs.YtaciohjobenipaaDoor
end

section
/-
  The law's same; astrolaberef04's Make, Neg, Add, Sub, Mul.
-/
namespace Go.Proofs.YtaciohjobenipaaDoor
open Go.RowKit
set_option maxHeartbeats 2000000 in
set_option maxRecDepth 100000 in
theorem rmake_any (A : Option Addr) (c : Nat) (s : Bool) (xs : List Nat) (w : World) (h : Dg w A c xs) (hl : xs.length ≤ 1000000) :
    Calls Tryd.prog 82 #[.bool s, .slice A xs.length c] w fun e w' => Zr (sg s (val xs)) w e w' := by
  have l1 := digs_len_le h.2.1
  obtain ⟨q, hq⟩ : ∃ q, decide (0 < (digs (val xs)).length) = q := ⟨_, rfl⟩
  have hq' : decide ((0 : Int) < ((digs (val xs)).length : Int)) = q := by rw [← hq, decide_eq_decide]; omega
  have HS := Lib.hid (show (s && q) = decide (sg s (val xs) < 0) by
    rw [← sg_neg, ← hq]
    congr 1
    rw [decide_eq_decide]
    constructor
    · intro h0 e; rw [e, digs_zero] at h0; simp at h0
    · intro h0; have : (digs (val xs)).length ≠ 0 := fun e => h0 (digs_nil.1 e); omega)
  have HA := Lib.hid (sg_abs s (val xs))
  generalize sg s (val xs) = z at *
  go_enter Tryd.func82, Tryd.ntmps82
  go_wp2_with fail
  refine (rtrim_any A c xs _ (h.below (below1 _ _)) (by omega)).mono ?_
  rintro e w1 ⟨A1, c1, rfl, hd, hb⟩
  have K1 := Lib.hid hb
  have G1 := Lib.hid hd
  have HO1 := Lib.hid (off_box (g := w.heap.size) hd hb rfl noint2')
  obtain ⟨hc1, hf1⟩ := bcell hb
  clear hb hd h
  cases s
  · go_wp2
    refine bodyPost_ret (v := .agg #[.bool false, .slice A1 (digs (val xs)).length c1]) (by simp [results, Tryd.results82, go_sem, hc1]) rfl ?_
    refine ⟨A1, c1, by rw [← HS.out, HA.out]; rfl, ?_, ?_⟩
    · rw [HA.out]; exact (G1.out.set_off HO1.out _ _).set_off HO1.out _ _
    · exact ((below1 w _).trans (K1.out.mono (by simp))).setCell (by simp) _ |>.setCell (by simp) _
  · go_wp2
    refine bodyPost_ret (v := .agg #[.bool q, .slice A1 (digs (val xs)).length c1]) (by simp [results, Tryd.results82, go_sem, hc1]) rfl ?_
    refine ⟨A1, c1, by rw [← HS.out, HA.out]; rfl, ?_, ?_⟩
    · rw [HA.out]; exact (G1.out.set_off HO1.out _ _).set_off HO1.out _ _
    · exact ((below1 w _).trans (K1.out.mono (by simp))).setCell (by simp) _ |>.setCell (by simp) _
set_option maxHeartbeats 2000000 in
set_option maxRecDepth 100000 in
theorem rneg_any (A : Option Addr) (c : Nat) (s : Bool) (xs : List Nat) (w : World) (h : Dg w A c xs) (hl : xs.length ≤ 1000000) :
    Calls Tryd.prog 46 #[.agg #[.bool s, .slice A xs.length c]] w fun e w' => Zr (-sg s (val xs)) w e w' := by
  have TM := Lib.hid (fun W h => rmake_any A c (!s) xs W h hl)
  rw [sg_not] at TM
  generalize -sg s (val xs) = z at *
  go_enter Tryd.func46, Tryd.ntmps46
  go_wp2_with fail
  refine (TM.out _ (h.below (below2 _ _ _))).mono ?_
  rintro e w1 ⟨A1, c1, rfl, hd, hb⟩
  have K1 := Lib.hid hb
  have G1 := Lib.hid hd
  have HO1 := Lib.hid (off_box (g := w.heap.size + 1) hd hb (by simp) noint2')
  obtain ⟨hc1, hf1⟩ := bcell hb
  clear hb hd h
  go_wp2
  refine bodyPost_ret (v := .agg #[.bool (decide (z < 0)), .slice A1 (digs z.natAbs).length c1]) (by simp [results, Tryd.results46, go_sem, hc1]) rfl ?_
  exact ⟨A1, c1, rfl, (G1.out.set_off HO1.out _ _).set_off HO1.out _ _, (((below2 w _ _).trans (K1.out.mono (by simp; omega))).setCell (by simp) _).setCell (by simp) _⟩
end Go.Proofs.YtaciohjobenipaaDoor
end

section
/-
  iv: the reference's norm.
-/
namespace Go.Proofs.YtaciohjobenipaaDoor
open Go.RowKit
set_option linter.unusedSimpArgs false
set_option linter.unusedVariables false
theorem rmake_z {A : Option Addr} {c : Nat} {s : Bool} {xs : List Nat} {z : Int} {w : World} (h : Dg w A c xs) (hl : xs.length ≤ 1000000) (hz : sg s (val xs) = z) :
    Calls Tryd.prog 82 #[.bool s, .slice A xs.length c] w fun e w' => Zr z w e w' := by
  subst hz; exact rmake_any A c s xs w h hl
theorem rbit_z {A : Option Addr} {c v j : Nat} {q : Bool} {w : World} (h : Dg w A c (digs v)) (hl : (digs v).length ≤ 100000) (hj : j ≤ 10000000) (hq : bitAt v (j : Int) = q) :
    Calls Tryd.prog 83 #[.slice A (digs v).length c, .int .i64 j] w fun e w' => e = .returned (.bool q) ∧ w = w' := by
  have := rbit_any A c (digs v) (j : Int) w h (by omega) (by omega) (by omega)
  rwa [val_digs, hq] at this
theorem rshr_z {A : Option Addr} {c v n : Nat} {w : World} (h : Dg w A c (digs v)) (hl : (digs v).length ≤ 1048576) (hn : n ≤ 9223372036854775807) :
    Calls Tryd.prog 84 #[.slice A (digs v).length c, .int .i64 n] w fun e w' => ∃ A' c', e = .returned (.slice A' (digs (v / 2 ^ n)).length c') ∧ Dg w' A' c' (digs (v / 2 ^ n)) ∧ Below w.heap.size w w' := by
  have := rshr_any A c (digs v) n w h hl hn
  rwa [val_digs] at this
theorem len_shr {v j : Nat} (h : (digs v).length ≤ 100000) : (digs (v / 2 ^ j)).length ≤ 1000000 := Nat.le_trans (digs_shr_len _ _) (by omega)

set_option maxHeartbeats 4000000 in
set_option maxRecDepth 100000 in
theorem rnorm_any (A : Option Addr) (c : Nat) (s : Bool) (xs : List Nat) (y z m : Int) (k : Nat) (w : World) (h : Dg w A c xs) (hl : xs.length ≤ 100000) (hz : sg s (val xs) = z) (h0 : (digs z.natAbs).length ≠ 0) (hlz : (digs z.natAbs).length ≤ 100000) (hb : ∀ j, j < k → bitAt z.natAbs (j : Int) = false) (hk1 : bitAt z.natAbs (k : Int) = true) (hk : k ≤ 10000000) (hm : sg (decide (z < 0)) (z.natAbs / 2 ^ k) = m) (y0 : -1000000 ≤ y) (y1 : y ≤ 1000000):
    Calls Tryd.prog 40 #[.agg #[.bool s, .slice A xs.length c], .int .i64 y] w fun e w' => Yr m (y + k) w e w' := by
  have HZ := Lib.hid hz
  have HL := Lib.hid hl
  have HLZ := Lib.hid hlz
  have HB := Lib.hid hb
  have HK1 := Lib.hid hk1
  have HM := Lib.hid hm
  have n0 := Lib.hid (show ((((digs z.natAbs).length : Nat) : Int) == 0) = false by simp; exact fun e => h0 (by rw [e]; rfl))
  have L0 := Lib.hid ((live_start w).add h)
  clear h hl hz hlz hb hk1 hm h0
  go_enter Tryd.func40, Tryd.ntmps40
  go_wp2_with fail
  obtain ⟨v1, hW, hb, Ri_1, Rr_1⟩ := new2 w (.cells #[.bool s, .slice A xs.length c] 24) (.cells #[.bool false, .slice none 0 0, .int .i64 0] 26)
  rw [← hW]
  have L1 := ls L0 hb
  have Gi := gl0 L0.out
  have Gr := gl1 L0.out
  have Nir : w.heap.size < w.heap.size + 1 := by omega
  clear hW hb
  obtain ⟨fi0, zi0, fi1, zi1, xi⟩ := ly2 Ri_1.out
  go_wp2_with fail
  refine (rmake_z (L1.out.get (A := A) (c := c) (xs := xs) (by simp)) (Nat.le_trans HL.out (by omega)) HZ.out).mono ?_
  rintro e w2 ⟨A2, c2, rfl, hd, hb⟩
  have L2 := la L1 hb hd
  clear fi0 zi0 fi1 zi1 xi
  have Ri_2 := co Ri_1 hb
  have Rr_2 := co Rr_1 hb
  clear hb hd
  go_upto_region 2 with fail
  obtain ⟨w3, hW, hb, Rx_3⟩ := new1 w2 (.cells #[.bool (decide (z < 0)), .slice A2 (digs z.natAbs).length c2] 24)
  rw [← hW]
  have L3 := ls L2 hb
  have Ri_3 := co Ri_2 hb
  have Rr_3 := co Rr_2 hb
  have Gx := gl0 L2.out
  have Nix := nl0 Ri_2.out
  have Nrx := nl0 Rr_2.out
  clear hW hb
  have e0 := n0.out
  obtain ⟨fx0, zx0, fx1, zx1, xx⟩ := ly2 Rx_3.out
  go_wp2_with fail
  clear fx0 zx0 fx1 zx1 xx
  clear e0
  go_loopw [6] (fun iv wr => ∃ j : Nat, j ≤ k ∧ iv = .int .i64 j ∧ wr = w3) (fun iv _ => k - (intOf iv).toNat)
  case atStart => exact ⟨0, Nat.zero_le _, rfl, rfl⟩
  case round =>
    obtain ⟨j, hj, rfl, hwr⟩ := hrel
    subst hwr
    by_cases hlt : j < k
    · have bj := HB.out j hlt
      have BJ := Lib.hid bj
      clear bj
      obtain ⟨fx0, zx0, fx1, zx1, xx⟩ := ly2 Rx_3.out
      go_wp2_with fail
      refine (rbit_z (L3.out.get (A := A2) (c := c2) (xs := digs z.natAbs) (by simp)) HLZ.out (by omega) BJ.out).mono ?_
      rintro e w4 ⟨rfl, rfl⟩
      go_wp2
      go_roundw
      case rel => exact ⟨j + 1, by omega, by go_num, by first | trivial | rfl⟩
      case measure => simp [intOf]; omega
    · obtain rfl : j = k := by omega
      obtain ⟨fx0, zx0, fx1, zx1, xx⟩ := ly2 Rx_3.out
      go_wp2_with fail
      refine (rbit_z (L3.out.get (A := A2) (c := c2) (xs := digs z.natAbs) (by simp)) HLZ.out (by omega) HK1.out).mono ?_
      rintro e w5 ⟨rfl, rfl⟩
      clear fx0 zx0 fx1 zx1 xx
      have wj : IntKind.i64.wrap (y + (j : Int)) = y + (j : Int) := IntWalk.i64_in _ (by omega)
      go_upto_region 7 with fail
      obtain ⟨fx0, zx0, fx1, zx1, xx⟩ := ly2 Rx_3.out
      have KD := Lib.hid (bd0 wr)
      have LD := ls L3 KD.out
      have Mx : w2.heap.size ≠ w.heap.size + 1 := by omega
      go_region_held3 (fun w' => (∀ o, w'.cell? ⟨w2.heap.size, o, none⟩ = wr.cell? ⟨w2.heap.size, o, none⟩))
        (first | with_reducible exact keep_b KD.out xx | with_reducible exact keep_b K7.out xx | with_reducible exact keep_b K8.out xx | exact (keep_set (keep_b K8.out xx) Mx) | exact (keep_set (keep_set (keep_b K8.out xx) Mx) Mx) | exact (keep_set (keep_set (keep_set (keep_b K8.out xx) Mx) Mx) Mx))
        (first
          | (go_at_call 84; (with_reducible refine (rshr_z (LD.out.get (A := A2) (c := c2) (xs := digs z.natAbs) (by simp)) (Nat.le_trans HLZ.out (by omega)) (by omega)).mono ?_); rintro e w7 ⟨A7, c7, rfl, hd, hb⟩; (have K7 := bt KD hb); (have L7 := la LD hb hd); clear hb hd)
          | (go_at_call 82; (with_reducible refine (rmake_z (z := m) (L7.out.get (A := A7) (c := c7) (xs := digs (z.natAbs / 2 ^ j)) (by simp)) (len_shr HLZ.out) (by rw [val_digs]; exact HM.out)).mono ?_); rintro e w8 ⟨A8, c8, rfl, hd, hb⟩; (have K8 := bt K7 hb); (have L8 := la L7 hb hd); (have qr0_K8 := row_c (i := 0) (co Rr_3 K8.out).out rfl); (have pr0_K8 := frozen_of_row _ _ 0 _ _ (cells_of Rr_3.out K8.out)); (have qr1_K8 := row_c (i := 1) (co Rr_3 K8.out).out rfl); (have pr1_K8 := frozen_of_row _ _ 1 _ _ (cells_of Rr_3.out K8.out)); (have qr2_K8 := row_c (i := 2) (co Rr_3 K8.out).out rfl); (have pr2_K8 := frozen_of_row _ _ 2 _ _ (cells_of Rr_3.out K8.out)); clear hb hd))
      rename_i hHeld
      clear hHeld
      clear fx0 zx0 fx1 zx1 xx
      have Ri_8 := co Ri_3 K8.out
      have Rr_8 := co Rr_3 K8.out
      have Rx_8 := co Rx_3 K8.out
      obtain ⟨fr0, zr0, fr1, zr1, fr2, zr2, xr⟩ := ly3 Rr_8.out
      go_wp2
      refine bodyPost_ret (v := .agg #[.bool (decide (m < 0)), .slice A8 (digs m.natAbs).length c8, .int .i64 ((y + j))]) (by simp [results, Tryd.results40, go_sem, fr0, fr1, fr2, wj]) rfl ?_
      
      refine ⟨A8, c8, rfl, ?_, ?_⟩
      · exact (fin3 L8.out Rr_8.out noint3 Gr).get (A := A8) (c := c8) (xs := digs m.natAbs) (by simp)
      · exact (fin3 L8.out Rr_8.out noint3 Gr).1
end Go.Proofs.YtaciohjobenipaaDoor
end

section
/-
  astrolaberef04's Right, From.
-/
namespace Go.Proofs.YtaciohjobenipaaDoor
open Go.RowKit
set_option maxHeartbeats 1000000 in
set_option maxRecDepth 100000 in
theorem rright_any (A : Option Addr) (c : Nat) (s : Bool) (xs : List Nat) (w : World) (h : Dg w A c xs) (q : Bool) (hq : rightB s xs = q) (hl : xs.length ≤ 9223372036854775807) :
    Calls Tryd.prog 55 #[.agg #[.bool s, .slice A xs.length c]] w fun e w' => e = .returned (.bool q) ∧ Below w.heap.size w w' := by
  by_cases h0 : xs.length = 0
  · have t0 : ((xs.length : Int) == 0) = true := by rw [h0]; rfl
    have t1 : decide (0 < xs.length) = false := by rw [h0]; rfl
    have HQ := Lib.hid (show (!s) = q by rw [← hq]; unfold rightB; rw [if_pos h0])
    clear h h0 hq
    cases s
    all_goals
      go_enter Tryd.func55, Tryd.ntmps55
      go_wp2
      go_ret
      exact ⟨by rw [← HQ.out]; rfl, below1 _ _⟩
  · have t0 : ((xs.length : Int) == 0) = false := beq_eq_false_iff_ne.2 (by omega)
    have t1 : decide (0 < xs.length) = true := by simp; omega
    obtain ⟨b, off, hA, hb, hc⟩ := h.2.2 (by omega)
    have hx := hc (xs.length - 1) (by omega)
    have hp : 0 < xs.length := by omega
    have hq' : decide (xs[xs.length - 1]?.getD 0 ≠ 0) = q := by rw [← hq]; unfold rightB; rw [if_neg h0]
    generalize xs[xs.length - 1]?.getD 0 = x at *
    have hxq : ((x : Int) != 0) = q := by
      rw [← hq', Bool.eq_iff_iff]; simp
    have HX := Lib.hid hxq
    clear h h0 hq hc hq' hxq
    subst hA
    go_enter Tryd.func55, Tryd.ntmps55
    go_wp2
    go_ret
    refine ⟨?_, below1 _ _⟩
    rw [← HX.out]
    rfl
set_option maxHeartbeats 2000000 in
set_option maxRecDepth 100000 in
theorem rzfrom_any (n : Int) (w : World) (h0 : -9223372036854775808 ≤ n) (h1 : n ≤ 9223372036854775807) :
    Calls Tryd.prog 44 #[.int .i64 n] w fun e w' => Zr n w e w' := by
  have lf := digs_small (n := n.natAbs) (by omega)
  by_cases hn : n < 0
  · have d0 : decide (n < 0) = true := by simp [hn]
    have TM := Lib.hid (fun A' c' W h => rmake_any A' c' true (digs n.natAbs) W h (by omega))
    rw [val_digs, show sg true n.natAbs = n by unfold sg; simp; omega] at TM
    go_enter Tryd.func44, Tryd.ntmps44
    go_wp2_with fail
    refine (rfrom_l (i := _) (k := n.natAbs) (live_start _) (by first | omega | (simp only [wrap_u64_eq]; omega)) (by omega)).mono ?_
    rintro e w1 ⟨A1, c1, rfl, hL⟩
    have K1 := Lib.hid hL.1
    have G1 := Lib.hid (hL.get (A := A1) (c := c1) (xs := digs n.natAbs) (by simp))
    clear hL
    go_wp2_with fail
    refine (TM.out A1 c1 _ G1.out).mono ?_
    rintro e w2 ⟨A2, c2, rfl, hd, hb⟩
    have K2 := Lib.hid (K1.out.trans (hb.mono K1.out.size))
    have G2 := Lib.hid hd
    have HO2 := Lib.hid (off_box (g := w.heap.size) hd K2.out rfl noint2')
    obtain ⟨hc2, hf2⟩ := bcell K2.out
    clear hb hd
    go_wp2
    refine bodyPost_ret (v := .agg #[.bool true, .slice A2 (digs n.natAbs).length c2]) (by simp [results, Tryd.results44, go_sem, hc2]) rfl ?_
    exact ⟨A2, c2, by rw [d0], (G2.out.set_off HO2.out _ _).set_off HO2.out _ _, (((below1 w _).trans (K2.out.mono (by simp))).setCell (by simp) _).setCell (by simp) _⟩
  · have d0 : decide (n < 0) = false := by simp; omega
    have TM := Lib.hid (fun A' c' W h => rmake_any A' c' false (digs n.natAbs) W h (by omega))
    rw [val_digs, show sg false n.natAbs = n by unfold sg; simp; omega] at TM
    go_enter Tryd.func44, Tryd.ntmps44
    go_wp2_with fail
    refine (rfrom_l (i := _) (k := n.natAbs) (live_start _) (by first | omega | (simp only [wrap_u64_eq]; omega)) (by omega)).mono ?_
    rintro e w1 ⟨A1, c1, rfl, hL⟩
    have K1 := Lib.hid hL.1
    have G1 := Lib.hid (hL.get (A := A1) (c := c1) (xs := digs n.natAbs) (by simp))
    clear hL
    go_wp2_with fail
    refine (TM.out A1 c1 _ G1.out).mono ?_
    rintro e w2 ⟨A2, c2, rfl, hd, hb⟩
    have K2 := Lib.hid (K1.out.trans (hb.mono K1.out.size))
    have G2 := Lib.hid hd
    have HO2 := Lib.hid (off_box (g := w.heap.size) hd K2.out rfl noint2')
    obtain ⟨hc2, hf2⟩ := bcell K2.out
    clear hb hd
    go_wp2
    refine bodyPost_ret (v := .agg #[.bool false, .slice A2 (digs n.natAbs).length c2]) (by simp [results, Tryd.results44, go_sem, hc2]) rfl ?_
    exact ⟨A2, c2, by rw [d0], (G2.out.set_off HO2.out _ _).set_off HO2.out _ _, (((below1 w _).trans (K2.out.mono (by simp))).setCell (by simp) _).setCell (by simp) _⟩
end Go.Proofs.YtaciohjobenipaaDoor
end

section
/-
  ref05: Right, size, inRange, norm, Make.
-/
namespace Go.Proofs.YtaciohjobenipaaDoor
open Go.RowKit
set_option linter.unusedSimpArgs false
set_option linter.unusedVariables false
theorem sg_dz' (m : Int) : sg (decide (m < 0)) m.natAbs = m := by
  unfold sg; split <;> rename_i h <;> simp at h <;> omega

theorem tz_bit {z : Nat} (h : z ≠ 0) : bitAt z (tz z : Int) = true := by
  have ⟨a, b⟩ := tz_spec z h
  unfold bitAt
  simp only [Int.toNat_natCast, Bool.and_eq_true, decide_eq_true_eq]
  refine ⟨by omega, ?_⟩
  rw [Nat.testBit_eq_decide_div_mod_eq, decide_eq_true_eq]; exact a
theorem tz_lowb {z j : Nat} (h : z ≠ 0) (hj : j < tz z) : bitAt z (j : Int) = false := by
  have ⟨a, b⟩ := tz_spec z h
  unfold bitAt
  simp only [Int.toNat_natCast]
  rw [Bool.and_eq_false_iff]
  right
  rw [Nat.testBit_eq_decide_div_mod_eq, decide_eq_false_iff_not]
  have e : z = z / 2 ^ tz z * 2 ^ (tz z - j - 1) * 2 * 2 ^ j := by
    rw [Nat.mul_assoc _ 2, ← Nat.pow_succ', Nat.mul_assoc, ← Nat.pow_add]
    rw [show tz z - j - 1 + (j + 1) = tz z by omega]; exact b
  rw [e, Nat.mul_div_cancel _ (Nat.pow_pos (by omega))]
  omega
theorem nm_sgz {z : Int} (h : z ≠ 0) : sg (decide (z < 0)) (z.natAbs / 2 ^ tz z.natAbs) = nm z := by
  have ⟨a, b⟩ := tz_spec z.natAbs (by omega)
  have ⟨c, d, e⟩ := nm_back h
  rw [← e]
  have := nm_neg_iff z
  rw [← this]
  exact sg_dz' _

set_option maxHeartbeats 4000000 in
set_option maxRecDepth 100000 in
theorem r5right_z (A : Option Addr) (c : Nat) (m x : Int) (w : World) (h : Dg w A c (digs m.natAbs)) (hl : (digs m.natAbs).length ≤ 10000) (r : Rt m x) (m0 : m = 0):
    Calls Tryd.prog 22 #[.agg #[.bool (decide (m < 0)), .slice A (digs m.natAbs).length c, .int .i64 x]] w fun e w' => e = .returned (.bool true) ∧ Below w.heap.size w w' := by
  have hx0 := nf_zero r.1 m0
  have t0 : ((((digs m.natAbs).length : Nat) : Int) == 0) = true := by rw [m0, show digs (0 : Int).natAbs = [] from digs_zero]; rfl
  have x0 : (x == 0) = true := by simp [hx0]
  have HR := Lib.hid (show rightB (decide (m < 0)) (digs m.natAbs) = true by rw [m0, show digs (0 : Int).natAbs = [] from digs_zero]; rfl)
  have HL := Lib.hid hl
  have L0 := Lib.hid ((live_start w).add h)
  clear h hl r m0 hx0
  go_enter Tryd.func22, Tryd.ntmps22
  go_wp2_with fail
  obtain ⟨v1, hW, hb, Rx_1⟩ := new1 w (.cells #[.bool (decide (m < 0)), .slice A (digs m.natAbs).length c, .int .i64 x] 26)
  rw [← hW]
  have L1 := ls L0 hb
  have Gx := gl0 L0.out
  clear hW hb
  refine (rright_any A c _ _ _ (L1.out.get (A := A) (c := c) (xs := digs m.natAbs) (by simp)) true HR.out (Nat.le_trans HL.out (by omega))).mono ?_
  rintro e w2 ⟨rfl, hb⟩
  have L2 := ls L1 hb
  have Rx_2 := co Rx_1 hb
  clear hb 
  obtain ⟨fx0, zx0, fx1, zx1, fx2, zx2, xx⟩ := ly3 Rx_2.out
  go_wp2
  go_ret
  exact ⟨rfl, L2.out.1⟩
set_option maxHeartbeats 4000000 in
set_option maxRecDepth 100000 in
theorem r5right_p (A : Option Addr) (c : Nat) (m x : Int) (w : World) (h : Dg w A c (digs m.natAbs)) (hl : (digs m.natAbs).length ≤ 10000) (r : Rt m x) (m0 : m ≠ 0):
    Calls Tryd.prog 22 #[.agg #[.bool (decide (m < 0)), .slice A (digs m.natAbs).length c, .int .i64 x]] w fun e w' => e = .returned (.bool true) ∧ Below w.heap.size w w' := by
  have dr := dyR_num r
  unfold dyR at dr
  have n0 : (digs m.natAbs).length ≠ 0 := fun e => m0 (by have := digs_nil.1 e; omega)
  rw [if_neg n0] at dr
  simp only [Bool.and_eq_true, decide_eq_true_eq] at dr
  obtain ⟨⟨⟨dr, od⟩, x0⟩, x1⟩ := dr
  have HR := Lib.hid dr
  have HL := Lib.hid hl
  have t0 : ((((digs m.natAbs).length : Nat) : Int) == 0) = false := beq_eq_false_iff_ne.2 (by omega)
  have hp : 0 < (digs m.natAbs).length := by omega
  have hc1 : 0 < c := by have := h.1; omega
  obtain ⟨b, off, hA, hb, hc⟩ := h.2.2 hp
  have hx := hc 0 hp
  rw [Nat.add_zero] at hx
  have H := Lib.hid h
  generalize (digs m.natAbs)[0]?.getD 0 = d at *
  have hd : (((d : Nat) : Int).tmod 2 == 1) = true := by
    rw [Int.tmod_eq_emod_of_nonneg (by omega), beq_iff_eq]; omega
  have hd2 : (((d : Nat) : Int) % 2 == 1) = true := by rw [beq_iff_eq]; omega
  have d1 : decide (-131072 ≤ x) = true := decide_eq_true x0
  have d2 : decide (x ≤ 131072) = true := decide_eq_true x1
  have HB := Lib.hid hb
  have HX := Lib.hid hx
  clear hc hx hb
  subst hA
  have L0 := Lib.hid ((live_start w).add h)
  clear h hl r dr od x0 x1 m0 n0
  go_enter Tryd.func22, Tryd.ntmps22
  go_wp2_with fail
  obtain ⟨v1, hW, hb, Rx_1⟩ := new1 w (.cells #[.bool (decide (m < 0)), .slice (some ⟨b, off, none⟩) (digs m.natAbs).length c, .int .i64 x] 26)
  rw [← hW]
  have L1 := ls L0 hb
  have Gx := gl0 L0.out
  clear hW hb
  refine (rright_any (some ⟨b, off, none⟩) c _ _ _ (L1.out.get (A := (some ⟨b, off, none⟩)) (c := c) (xs := digs m.natAbs) (by simp)) true HR.out (Nat.le_trans HL.out (by omega))).mono ?_
  rintro e w2 ⟨rfl, hb⟩
  have L2 := ls L1 hb
  have Rx_2 := co Rx_1 hb
  clear hb 
  have hx := (L2.out.1.cell (p := ⟨b, off, none⟩) HB.out).trans HX.out
  obtain ⟨fx0, zx0, fx1, zx1, fx2, zx2, xx⟩ := ly3 Rx_2.out
  go_wp2
  go_ret
  exact ⟨rfl, L2.out.1⟩
theorem r5right_t {A : Option Addr} {c : Nat} {m x : Int} {w : World} (h : Dg w A c (digs m.natAbs)) (hl : (digs m.natAbs).length ≤ 10000) (r : Rt m x) :
    Calls Tryd.prog 22 #[.agg #[.bool (decide (m < 0)), .slice A (digs m.natAbs).length c, .int .i64 x]] w fun e w' => e = .returned (.bool true) ∧ Below w.heap.size w w' := by
  by_cases m0 : m = 0
  · exact r5right_z A c m x w h hl r m0
  · exact r5right_p A c m x w h hl r m0

theorem rbits_z {A : Option Addr} {c x : Nat} {z : Int} {w : World} (h : Dg w A c (digs x)) (hl : (digs x).length ≤ 1000000) (hz : (blen x : Int) = z) :
    Calls Tryd.prog 73 #[.slice A (digs x).length c] w fun e w' => e = .returned (.int .i64 z) ∧ Below w.heap.size w w' := by
  have := rbits_any A c (digs x) w h (by omega)
  rw [val_digs, hz] at this; exact this

set_option maxHeartbeats 4000000 in
set_option maxRecDepth 100000 in
theorem r5size_any (A : Option Addr) (c : Nat) (m x s : Int) (w : World) (h : Dg w A c (digs m.natAbs)) (hl : (digs m.natAbs).length ≤ 100000) (x0 : -10000000 ≤ x) (x1 : x ≤ 10000000) (hs : x + bl m = s):
    Calls Tryd.prog 49 #[.agg #[.bool (decide (m < 0)), .slice A (digs m.natAbs).length c, .int .i64 x]] w fun e w' => e = .returned (.int .i64 s) ∧ Below w.heap.size w w' := by
  have b1 := bl_bd hl
  unfold bl at hs
  obtain ⟨z, hz⟩ : ∃ z : Int, (blen m.natAbs : Int) = z := ⟨_, rfl⟩
  rw [hz] at hs
  have z0 : 0 ≤ z ∧ z ≤ 13000000 := by omega
  obtain ⟨z0, z1⟩ := z0
  have ws : IntKind.i64.wrap (x + z) = s := by rw [IntWalk.i64_in _ (by omega)]; exact hs
  have HZ := Lib.hid hz
  have HL := Lib.hid hl
  have L0 := Lib.hid ((live_start w).add h)
  clear h hl hz hs b1
  go_enter Tryd.func49, Tryd.ntmps49
  go_wp2_with fail
  obtain ⟨v1, hW, hb, Rx_1⟩ := new1 w (.cells #[.bool (decide (m < 0)), .slice A (digs m.natAbs).length c, .int .i64 x] 26)
  rw [← hW]
  have L1 := ls L0 hb
  have Gx := gl0 L0.out
  clear hW hb
  obtain ⟨fx0, zx0, fx1, zx1, fx2, zx2, xx⟩ := ly3 Rx_1.out
  have KD := Lib.hid (bd0 v1)
  have LD := ls L1 KD.out
  go_region_held3 (fun w' => ∀ b o, b < v1.heap.size → w'.cell? ⟨b, o, none⟩ = v1.cell? ⟨b, o, none⟩)
    (first | with_reducible exact (bcell KD.out).1 | with_reducible exact (bcell K3.out).1)
    (first
      | (go_at_call 73; (with_reducible refine (rbits_z (LD.out.get (A := A) (c := c) (xs := digs m.natAbs) (by simp)) (Nat.le_trans HL.out (by omega)) HZ.out).mono ?_); rintro e w3 ⟨rfl, hb⟩; (have K3 := bt KD hb); (have L3 := Lib.hid (LD.out.step hb)); clear hb ))
  rename_i hHeld
  clear hHeld
  clear fx0 zx0 fx1 zx1 fx2 zx2 xx
  have Rx_3 := co Rx_1 K3.out
  clear KD LD
  clear ws
  go_wp2
  go_ret
  exact ⟨rfl, L3.out.1⟩

set_option maxHeartbeats 1000000 in
set_option maxRecDepth 100000 in
theorem r5inr_z (A : Option Addr) (c : Nat) (m x : Int) (w : World) (m0 : m = 0) :
    Calls Tryd.prog 41 #[.agg #[.bool (decide (m < 0)), .slice A (digs m.natAbs).length c, .int .i64 x]] w fun e w' => e = .returned (.bool true) ∧ Below w.heap.size w w' := by
  have t0 : ((((digs m.natAbs).length : Nat) : Int) == 0) = true := by rw [m0, show digs (0 : Int).natAbs = [] from digs_zero]; rfl
  clear m0
  go_enter Tryd.func41, Tryd.ntmps41
  go_wp2
  go_ret
  exact ⟨rfl, below1 _ _⟩
set_option maxHeartbeats 4000000 in
set_option maxRecDepth 100000 in
theorem r5inr_p (A : Option Addr) (c : Nat) (m x : Int) (w : World) (h : Dg w A c (digs m.natAbs)) (hl : (digs m.natAbs).length ≤ 10000) (hq : inR m x = true) (m0 : m ≠ 0):
    Calls Tryd.prog 41 #[.agg #[.bool (decide (m < 0)), .slice A (digs m.natAbs).length c, .int .i64 x]] w fun e w' => e = .returned (.bool true) ∧ Below w.heap.size w w' := by
  unfold inR at hq
  rw [decide_eq_true_eq] at hq
  rcases hq with hq | ⟨x0, x1, hb, s0, s1⟩
  · exact absurd hq m0
  have t0 : ((((digs m.natAbs).length : Nat) : Int) == 0) = false := beq_eq_false_iff_ne.2 (fun e => m0 (by have := digs_nil.1 (show (digs m.natAbs).length = 0 by omega); omega))
  obtain ⟨s, hs⟩ : ∃ s : Int, x + bl m = s := ⟨_, rfl⟩
  rw [hs] at s0 s1
  obtain ⟨z, hz⟩ : ∃ z : Int, (blen m.natAbs : Int) = z := ⟨_, rfl⟩
  unfold bl at hb
  have zb : z ≤ 262144 := by omega
  have HZ := Lib.hid hz
  have HS := Lib.hid hs
  have HL := Lib.hid hl
  have SC := Lib.hid (show -10000000 ≤ x ∧ x ≤ 10000000 by omega)
  have d1 : decide (-65536 ≤ s) = true := decide_eq_true s0
  have d2 : decide (s ≤ 65536) = true := decide_eq_true s1
  have d3 : decide (-131072 ≤ x) = true := decide_eq_true x0
  have d4 : decide (x ≤ 131072) = true := decide_eq_true x1
  have d5 : decide (z ≤ 262144) = true := decide_eq_true zb
  have L0 := Lib.hid ((live_start w).add h)
  clear h hl hs hz hb zb s0 s1 x0 x1 m0
  go_enter Tryd.func41, Tryd.ntmps41
  go_wp2_with fail
  obtain ⟨v1, hW, hb, Rx_1⟩ := new1 w (.cells #[.bool (decide (m < 0)), .slice A (digs m.natAbs).length c, .int .i64 x] 26)
  rw [← hW]
  have L1 := ls L0 hb
  have Gx := gl0 L0.out
  clear hW hb
  obtain ⟨fx0, zx0, fx1, zx1, fx2, zx2, xx⟩ := ly3 Rx_1.out
  clear fx0 zx0 fx1 zx1 fx2 zx2 xx
  obtain ⟨fx0, zx0, fx1, zx1, fx2, zx2, xx⟩ := ly3 Rx_1.out
  go_wp2_with fail
  refine (r5size_any A c m x s _ (L1.out.get (A := A) (c := c) (xs := digs m.natAbs) (by simp)) (Nat.le_trans HL.out (by omega)) SC.out.1 SC.out.2 HS.out).mono ?_
  rintro e w2 ⟨rfl, hb⟩
  have L2 := ls L1 hb
  clear fx0 zx0 fx1 zx1 fx2 zx2 xx
  have Rx_2 := co Rx_1 hb
  clear hb 
  obtain ⟨fx0, zx0, fx1, zx1, fx2, zx2, xx⟩ := ly3 Rx_2.out
  go_wp2_with fail
  refine (rbits_z (L2.out.get (A := A) (c := c) (xs := digs m.natAbs) (by simp)) (Nat.le_trans HL.out (by omega)) HZ.out).mono ?_
  rintro e w3 ⟨rfl, hb⟩
  have L3 := ls L2 hb
  clear fx0 zx0 fx1 zx1 fx2 zx2 xx
  have Rx_3 := co Rx_2 hb
  clear hb 
  go_wp2
  go_ret
  exact ⟨rfl, L3.out.1⟩
theorem r5inr_t {A : Option Addr} {c : Nat} {m x : Int} {w : World} (h : Dg w A c (digs m.natAbs)) (hl : (digs m.natAbs).length ≤ 10000) (hq : inR m x = true) :
    Calls Tryd.prog 41 #[.agg #[.bool (decide (m < 0)), .slice A (digs m.natAbs).length c, .int .i64 x]] w fun e w' => e = .returned (.bool true) ∧ Below w.heap.size w w' := by
  by_cases m0 : m = 0
  · exact r5inr_z A c m x w m0
  · exact r5inr_p A c m x w h hl hq m0

set_option maxHeartbeats 4000000 in
set_option maxRecDepth 100000 in
theorem rnorm_0 (A : Option Addr) (c : Nat) (s : Bool) (xs : List Nat) (y z : Int) (w : World) (h : Dg w A c xs) (hl : xs.length ≤ 100000) (hz : sg s (val xs) = z) (z0 : z = 0):
    Calls Tryd.prog 40 #[.agg #[.bool s, .slice A xs.length c], .int .i64 y] w fun e w' => Yr 0 0 w e w' := by
  have HZ := Lib.hid hz
  have HL := Lib.hid hl
  have t0 : ((((digs z.natAbs).length : Nat) : Int) == 0) = true := by rw [z0, show digs (0 : Int).natAbs = [] from digs_zero]; rfl
  have L0 := Lib.hid ((live_start w).add h)
  clear h hl hz z0
  go_enter Tryd.func40, Tryd.ntmps40
  go_wp2_with fail
  obtain ⟨v1, hW, hb, Ri_1, Rr_1⟩ := new2 w (.cells #[.bool s, .slice A xs.length c] 24) (.cells #[.bool false, .slice none 0 0, .int .i64 0] 26)
  rw [← hW]
  have L1 := ls L0 hb
  have Gi := gl0 L0.out
  have Gr := gl1 L0.out
  have Nir : w.heap.size < w.heap.size + 1 := by omega
  clear hW hb
  refine (rmake_z (L1.out.get (A := A) (c := c) (xs := xs) (by simp)) (Nat.le_trans HL.out (by omega)) HZ.out).mono ?_
  rintro e w2 ⟨A2, c2, rfl, hd, hb⟩
  have L2 := la L1 hb hd
  have Ri_2 := co Ri_1 hb
  have Rr_2 := co Rr_1 hb
  clear hb hd
  go_upto_region 2 with fail
  obtain ⟨w3, hW, hb, Rx_3⟩ := new1 w2 (.cells #[.bool (decide (z < 0)), .slice A2 (digs z.natAbs).length c2] 24)
  rw [← hW]
  have L3 := ls L2 hb
  have Ri_3 := co Ri_2 hb
  have Rr_3 := co Rr_2 hb
  have Gx := gl0 L2.out
  have Nix := nl0 Ri_2.out
  have Nrx := nl0 Rr_2.out
  clear hW hb
  obtain ⟨fx0, zx0, fx1, zx1, xx⟩ := ly2 Rx_3.out
  obtain ⟨fr0, zr0, fr1, zr1, fr2, zr2, xr⟩ := ly3 Rr_3.out
  go_wp2
  refine bodyPost_ret (v := .agg #[.bool false, .slice none 0 0, .int .i64 0]) (by simp [results, Tryd.results40, go_sem, fx0, fx1, fr0, fr1, fr2]) rfl ?_
  exact zero_yr (fin3 L3.out Rr_3.out noint3 Gr).1
theorem rnorm_z {A : Option Addr} {c : Nat} {s : Bool} {xs : List Nat} {y z M E : Int} {w : World} (h : Dg w A c xs) (hl : xs.length ≤ 100000) (hz : sg s (val xs) = z) (hlz : (digs z.natAbs).length ≤ 100000) (y0 : -1000000 ≤ y) (y1 : y ≤ 1000000) (hM : nm z = M) (hE : nx z y = E) :
    Calls Tryd.prog 40 #[.agg #[.bool s, .slice A xs.length c], .int .i64 y] w fun e w' => Yr M E w e w' := by
  by_cases h0 : z = 0
  · subst hM hE; have := rnorm_0 A c s xs y z w h hl hz h0; rw [h0]; exact this
  · have hb := bl_bd hlz
    have hlt : tz z.natAbs < 2 * 3200000 := by
      have := (blen_bd z.natAbs (by omega)).2.1
      have := tz_lt (by omega) this
      omega
    have e2 : nx z y = y + tz z.natAbs := by unfold nx; rw [if_neg h0]
    rw [← hM, ← hE, e2]
    exact rnorm_any A c s xs y z _ (tz z.natAbs) w h hl hz (fun e => h0 (by have := digs_nil.1 e; omega)) hlz (fun j hj => tz_lowb (by omega) hj) (tz_bit (by omega)) (by omega) (nm_sgz h0) y0 y1

set_option maxHeartbeats 4000000 in
set_option maxRecDepth 100000 in
theorem r5make_yes (A : Option Addr) (c : Nat) (s : Bool) (xs : List Nat) (y M E : Int) (w : World) (h : Dg w A c xs) (hl : xs.length ≤ 9000) (y0 : -100000 ≤ y) (y1 : y ≤ 100000) (hM : nm (sg s (val xs)) = M) (hE : nx (sg s (val xs)) y = E) (hq : inR M E = true):
    Calls Tryd.prog 9 #[.agg #[.bool s, .slice A xs.length c], .int .i64 y] w fun e w' => Yb M E true w e w' := by
  have HL := Lib.hid hl
  have HM := Lib.hid hM
  have HE := Lib.hid hE
  have HQ := Lib.hid hq
  have LM := Lib.hid (inr_len hq)
  have LZ := Lib.hid (show (digs (sg s (val xs)).natAbs).length ≤ 100000 by rw [sg_abs]; exact Nat.le_trans (digs_len_le h.2.1) (by omega))
  have d1 : decide (y < -100000) = false := decide_eq_false (by omega)
  have d2 : decide (100000 < y) = false := decide_eq_false (by omega)
  have Y := Lib.hid (show -1000000 ≤ y ∧ y ≤ 1000000 by omega)
  have L0 := Lib.hid ((live_start w).add h)
  clear h hl hM hE hq y0 y1
  go_enter Tryd.func9, Tryd.ntmps9
  go_wp2_with fail
  obtain ⟨v1, hW, hb, Ri_1, Rr_1⟩ := new2 w (.cells #[.bool s, .slice A xs.length c] 24) (.cells #[.bool false, .slice none 0 0, .int .i64 0] 26)
  rw [← hW]
  have L1 := ls L0 hb
  have Gi := gl0 L0.out
  have Gr := gl1 L0.out
  have Nir : w.heap.size < w.heap.size + 1 := by omega
  clear hW hb
  refine (rnorm_z (z := sg s (val xs)) (L1.out.get (A := A) (c := c) (xs := xs) (by simp)) (Nat.le_trans HL.out (by omega)) rfl LZ.out Y.out.1 Y.out.2 HM.out HE.out).mono ?_
  rintro e w2 ⟨A2, c2, rfl, hd, hb⟩
  have L2 := la L1 hb hd
  have Ri_2 := co Ri_1 hb
  have Rr_2 := co Rr_1 hb
  clear hb hd
  go_wp2_with fail
  obtain ⟨w3, hW, hb, Rx_3⟩ := new1 w2 (.cells #[.bool (decide (M < 0)), .slice A2 (digs M.natAbs).length c2, .int .i64 E] 26)
  rw [← hW]
  have L3 := ls L2 hb
  have Ri_3 := co Ri_2 hb
  have Rr_3 := co Rr_2 hb
  have Gx := gl0 L2.out
  have Nix := nl0 Ri_2.out
  have Nrx := nl0 Rr_2.out
  clear hW hb
  refine (r5inr_t (L3.out.get (A := A2) (c := c2) (xs := digs M.natAbs) (by simp)) LM.out HQ.out).mono ?_
  rintro e w4 ⟨rfl, hb⟩
  have L4 := ls L3 hb
  have Ri_4 := co Ri_3 hb
  have Rr_4 := co Rr_3 hb
  have Rx_4 := co Rx_3 hb
  clear hb 
  obtain ⟨fx0, zx0, fx1, zx1, fx2, zx2, xx⟩ := ly3 Rx_4.out
  obtain ⟨fr0, zr0, fr1, zr1, fr2, zr2, xr⟩ := ly3 Rr_4.out
  go_wp2
  refine bodyPost_ret (v := .tuple #[.agg #[.bool (decide (M < 0)), .slice A2 (digs M.natAbs).length c2, .int .i64 E], .bool true]) (by simp [results, Tryd.results9, go_sem, fx0, fx1, fx2, fr0, fr1, fr2]) rfl ?_
  
  refine ⟨A2, c2, rfl, ?_, ?_⟩
  · exact (fin3 L4.out Rr_4.out noint3 Gr).get (A := A2) (c := c2) (xs := digs M.natAbs) (by simp)
  · exact (fin3 L4.out Rr_4.out noint3 Gr).1
end Go.Proofs.YtaciohjobenipaaDoor
end
