import Derived.Test.YtcfoepogbfngmaaDoorMB2
import Derived.Test.YtcfoepogbfngmaaDoorMB1
import Derived.Test.YtcfoepogbfngmaaDoorMB0
section
/-
  dyad.cut.
-/
namespace Go.Proofs.YtcfoepogbfngmaaDoor
open Go.RowKit
set_option linter.unusedSimpArgs false
set_option linter.unusedVariables false
theorem dg_one {w : World} {g : Nat} {T : TypeId} (h : w.heap[g]? = some (.cells #[.int .u32 1] T (0, 0))) : Dg w (some ⟨g, 0, none⟩) 1 [1] :=
  ⟨Nat.le_refl _, by intro x hx; simp at hx; omega, fun _ => ⟨g, 0, rfl, heap_lt h, fun j hj => by
    have : j = 0 := by simp at hj; omega
    subst this
    exact row_c h rfl⟩⟩
theorem nadd1 {A : Option Addr} {c k g : Nat} {T : TypeId} {w : World} (h : Dg w A c (digs k)) (hl : (digs k).length ≤ 1000000) (hR : w.heap[g]? = some (.cells #[.int .u32 1] T (0, 0))) :
    Calls Tryd.prog 46 #[.slice A (digs k).length c, .slice (some ⟨g, 0, none⟩) 1 1] w fun e w' => ∃ A' c', e = .returned (.slice A' (digs (k + 1)).length c') ∧ Dg w' A' c' (digs (k + 1)) ∧ Below w.heap.size w w' := by
  have := add_any A (some ⟨g, 0, none⟩) c 1 (digs k) [1] w h (dg_one hR) (by omega) (by simp)
  rw [val_digs, show val [1] = 1 from rfl] at this
  exact this
theorem shr_i {A : Option Addr} {c q d : Nat} {i : Int} {w : World} (h : Dg w A c (digs q)) (hl : (digs q).length ≤ 1000000) (hi : i = (d : Int)) (hd : d ≤ 100000000) :
    Calls Tryd.prog 44 #[.slice A (digs q).length c, .int .i64 i] w fun e w' => ∃ A' c', e = .returned (.slice A' (digs (q / 2 ^ d)).length c') ∧ Dg w' A' c' (digs (q / 2 ^ d)) ∧ Below w.heap.size w w' := by
  subst hi
  have := shr_any A c (digs q) d w h (by omega) (by omega)
  rw [val_digs] at this
  exact this
theorem zeros_i {A : Option Addr} {c q : Nat} {t : Int} {w : World} (h : Dg w A c (digs q)) (hl : (digs q).length ≤ 1000000) (h0 : q ≠ 0) (hT : T32 w) (ht : ((tz q : Nat) : Int) = t) :
    Calls Tryd.prog 45 #[.slice A (digs q).length c] w fun e w' => e = .returned (.int .i64 t) ∧ w = w' := by
  have := zeros_any A c (digs q) w h (by rw [val_digs]; exact h0) hl hT
  rw [val_digs, ht] at this
  exact this
theorem tz_low {q d : Nat} (h : q ≠ 0) : decide (tz q < d) = decide (q % 2 ^ d ≠ 0) := by
  rw [decide_eq_decide]
  have ⟨a, b⟩ := tz_spec q h
  constructor
  · intro hlt h0
    have hd : 2 ^ d ∣ q := Nat.dvd_of_mod_eq_zero h0
    have h1 : 2 ^ (tz q + 1) ∣ q := Nat.dvd_trans (Nat.pow_dvd_pow 2 hlt) hd
    obtain ⟨v, hv⟩ := h1
    have key : ∀ (u t v n : Nat), n = u * 2 ^ t → n = 2 ^ (t + 1) * v → u % 2 = 0 := by
      intro u t v n h1 h2
      have h3 : u * 2 ^ t = (2 * v) * 2 ^ t := by rw [← h1, h2, Nat.pow_succ]; grind
      have := Nat.eq_of_mul_eq_mul_right (Nat.pow_pos (by omega)) h3
      omega
    have := key _ _ _ _ b hv
    omega
  · intro h1
    rcases Nat.lt_or_ge (tz q) d with h2 | h2
    · exact h2
    · exfalso; apply h1
      exact Nat.mod_eq_zero_of_dvd (Nat.dvd_trans (Nat.pow_dvd_pow 2 h2) ⟨q / 2 ^ tz q, by rw [Nat.mul_comm]; exact b⟩)

set_option maxHeartbeats 4000000 in
set_option maxRecDepth 100000 in
theorem cut_nna_t (A : Option Addr) (c : Nat) (q : Nat) (y P : Int) (p : Nat) (M E : Int) (w : World) (h : Dg w A c (digs q)) (hl : (digs q).length ≤ 30000) (hT : T32 w) (hP : (p : Int) = P) (p2 : 2 ≤ p) (p4 : p ≤ 400) (hb : p ≤ blen q) (y0 : -900000 ≤ y) (y1 : y ≤ 900000) (hM : nm (sg false (q / 2 ^ (blen q - p))) = M) (hE : nx (sg false (q / 2 ^ (blen q - p))) (y + (blen q - p : Nat)) = E) (hlow : decide (q % 2 ^ (blen q - p) ≠ 0) = false):
    Calls Tryd.prog 29 #[.agg #[.bool false, .slice A (digs q).length c, .int .i64 y], .bool false, .int .i64 P, .bool true] w fun e w' => Yr M E w e w' := by
  have q0 : q ≠ 0 := by rintro rfl; rw [blen_zero] at hb; omega
  have b1 : blen q ≤ 960000 := by have := bl_bd (m := (q : Int)) (k := 30000) (by rw [Int.natAbs_natCast]; exact hl); rwa [Int.natAbs_natCast] at this
  obtain ⟨z, hz⟩ : ∃ z : Int, (blen q : Int) = z := ⟨_, rfl⟩
  obtain ⟨d, hd⟩ : ∃ d : Nat, blen q - p = d := ⟨_, rfl⟩
  rw [hd] at hM hE hlow
  have hzd : z - P = (d : Int) := by omega
  have htl := tz_low (q := q) (d := d) q0
  rw [hlow] at htl
  obtain ⟨t, ht⟩ : ∃ t : Int, ((tz q : Nat) : Int) = t := ⟨_, rfl⟩
  have d1 : decide (t < z - P) = false := by rw [← htl, decide_eq_decide]; omega
  have HTZ := Lib.hid ht
  have z0 : 0 ≤ z := by omega
  have z1 : z ≤ 960000 := by omega
  have pp0 : 2 ≤ P := by omega
  have pp1 : P ≤ 400 := by omega
  have zp0 : 0 ≤ z - P := by omega
  have HZ := Lib.hid hz
  have HZD := Lib.hid hzd
  have LX := Lib.hid hl
  have Q0 := Lib.hid q0
  have hlk := digs_len_mono _ _ (Nat.div_le_self q (2 ^ d))
  have hdk : d ≤ 960000 := by omega
  have hlk1 := digs_add_len (q / 2 ^ d) 1
  have l1 : (digs 1).length = 1 := by rw [digs_one (by omega) (by omega)]; rfl
  have LK1 := Lib.hid (show (digs (q / 2 ^ d + 1)).length ≤ 30001 by omega)
  have LK := Lib.hid (show (digs (q / 2 ^ d)).length ≤ 30000 by omega)
  obtain ⟨k, hk⟩ : ∃ k, q / 2 ^ d = k := ⟨_, rfl⟩
  rw [hk] at hM hE LK LK1
  have HK := Lib.hid hk
  have HM := Lib.hid hM
  have HE := Lib.hid (show nx (sg false (k)) (y + (z - P)) = E by rw [hzd]; exact hE)
  have SHR := Lib.hid (fun W (hW : Dg W A c (digs q)) => shr_i (i := z - P) hW (by omega) hzd (by omega))
  rw [hk] at SHR
  have HT := Lib.hid hT
  clear hT
  have L0 := Lib.hid ((live_start w).add h)
  clear h hl hP hb hz hd hzd q0 hM hE hlk hlk1 l1 hk b1 hlow htl ht
  go_enter Tryd.func29, Tryd.ntmps29
  go_wp2_with fail
  obtain ⟨v1, hW⟩ : ∃ W : World, W = ((w.alloc (.cells #[.bool false, .slice A (digs q).length c, .int .i64 y] 26)).alloc (.cells #[.bool false, .slice none 0 0, .int .i64 0] 26)) := ⟨_, rfl⟩
  rw [← hW]
  have hb : Below w.heap.size w v1 := by rw [hW]; exact (((Below.refl _ _).alloc (by simp <;> omega) _).alloc (by simp <;> omega) _)
  have L1 := Lib.hid (L0.out.step hb)
  have Rx_1 := Lib.hid (show v1.heap[w.heap.size]? = some (.cells #[.bool false, .slice A (digs q).length c, .int .i64 y] 26 (0, 0)) by rw [hW]; have := heap_alloc_new w (.cells #[.bool false, .slice A (digs q).length c, .int .i64 y] 26); rw [heap_alloc_old _ _ (by simp <;> omega)]; simpa using this)
  have Gx : w.heap.size ≤ w.heap.size := by have := L0.out.1.size; omega
  have Rr_1 := Lib.hid (show v1.heap[w.heap.size + 1]? = some (.cells #[.bool false, .slice none 0 0, .int .i64 0] 26 (0, 0)) by rw [hW]; have := heap_alloc_new (w.alloc (.cells #[.bool false, .slice A (digs q).length c, .int .i64 y] 26)) (.cells #[.bool false, .slice none 0 0, .int .i64 0] 26); simpa using this)
  have Gr : w.heap.size ≤ w.heap.size + 1 := by have := L0.out.1.size; omega
  have Nxr : w.heap.size < w.heap.size + 1 := by omega
  clear hW hb
  refine (bits_b (L1.out.get (A := A) (c := c) (xs := digs q) (by simp)) (Nat.le_trans LX.out (by omega)) HZ.out).mono ?_
  rintro e w2 ⟨rfl, rfl⟩
  have fx0 := row_c (i := 0) Rx_1.out rfl
  have zx0 := frozen_of_row _ _ 0 _ _ Rx_1.out
  have fx1 := row_c (i := 1) Rx_1.out rfl
  have zx1 := frozen_of_row _ _ 1 _ _ Rx_1.out
  have fx2 := row_c (i := 2) Rx_1.out rfl
  have zx2 := frozen_of_row _ _ 2 _ _ Rx_1.out
  have xx := heap_lt Rx_1.out
  go_wp2_with fail
  refine (SHR.out _ (L1.out.get (A := A) (c := c) (xs := digs q) (by simp))).mono ?_
  rintro e w3 ⟨A3, c3, rfl, hd, hb⟩
  have L3 := Lib.hid ((L1.out.step hb).add hd)
  clear fx0 zx0 fx1 zx1 fx2 zx2 xx
  have Rx_3 := Lib.hid (cells_of Rx_1.out hb)
  have Rr_3 := Lib.hid (cells_of Rr_1.out hb)
  clear hb hd
  have fx0 := row_c (i := 0) Rx_3.out rfl
  have zx0 := frozen_of_row _ _ 0 _ _ Rx_3.out
  have fx1 := row_c (i := 1) Rx_3.out rfl
  have zx1 := frozen_of_row _ _ 1 _ _ Rx_3.out
  have fx2 := row_c (i := 2) Rx_3.out rfl
  have zx2 := frozen_of_row _ _ 2 _ _ Rx_3.out
  have xx := heap_lt Rx_3.out
  go_wp2_with fail
  refine (zeros_i (L3.out.get (A := A) (c := c) (xs := digs q) (by simp)) (Nat.le_trans LX.out (by omega)) Q0.out (t32_live HT.out L3.out) HTZ.out).mono ?_
  rintro e w4 ⟨rfl, rfl⟩
  clear fx0 zx0 fx1 zx1 fx2 zx2 xx
  have fx0 := row_c (i := 0) Rx_3.out rfl
  have zx0 := frozen_of_row _ _ 0 _ _ Rx_3.out
  have fx1 := row_c (i := 1) Rx_3.out rfl
  have zx1 := frozen_of_row _ _ 1 _ _ Rx_3.out
  have fx2 := row_c (i := 2) Rx_3.out rfl
  have zx2 := frozen_of_row _ _ 2 _ _ Rx_3.out
  have xx := heap_lt Rx_3.out
  clear fx0 zx0 fx1 zx1 fx2 zx2 xx
  have fx0 := row_c (i := 0) Rx_3.out rfl
  have zx0 := frozen_of_row _ _ 0 _ _ Rx_3.out
  have fx1 := row_c (i := 1) Rx_3.out rfl
  have zx1 := frozen_of_row _ _ 1 _ _ Rx_3.out
  have fx2 := row_c (i := 2) Rx_3.out rfl
  have zx2 := frozen_of_row _ _ 2 _ _ Rx_3.out
  have xx := heap_lt Rx_3.out
  go_wp2_with fail
  refine (odd_any A3 c3 false k (y + (z - P)) M E _ (L3.out.get (A := A3) (c := c3) (xs := digs k) (by simp)) (Nat.le_trans LK.out (by omega)) (t32_live HT.out L3.out) ⟨by omega, by omega⟩ HM.out HE.out).mono ?_
  rintro e w5 ⟨A5, c5, rfl, hd, hb⟩
  have L5 := Lib.hid ((L3.out.step hb).add hd)
  clear fx0 zx0 fx1 zx1 fx2 zx2 xx
  have Rx_5 := Lib.hid (cells_of Rx_3.out hb)
  have Rr_5 := Lib.hid (cells_of Rr_3.out hb)
  clear hb hd
  have fr0 := row_c (i := 0) Rr_5.out rfl
  have zr0 := frozen_of_row _ _ 0 _ _ Rr_5.out
  have fr1 := row_c (i := 1) Rr_5.out rfl
  have zr1 := frozen_of_row _ _ 1 _ _ Rr_5.out
  have fr2 := row_c (i := 2) Rr_5.out rfl
  have zr2 := frozen_of_row _ _ 2 _ _ Rr_5.out
  have xr := heap_lt Rr_5.out
  go_wp2
  refine bodyPost_ret (v := .agg #[.bool (decide (M < 0)), .slice A5 (digs M.natAbs).length c5, .int .i64 E]) (by simp [results, Tryd.results29, go_sem, fr0, fr1, fr2]) rfl ?_
  
  refine ⟨A5, c5, rfl, ?_, ?_⟩
  · exact (fin3 L5.out Rr_5.out noint3 Gr).get (A := A5) (c := c5) (xs := digs M.natAbs) (by simp)
  · exact (fin3 L5.out Rr_5.out noint3 Gr).1

set_option maxHeartbeats 4000000 in
set_option maxRecDepth 100000 in
theorem cut_nna_f (A : Option Addr) (c : Nat) (q : Nat) (y P : Int) (p : Nat) (M E : Int) (w : World) (h : Dg w A c (digs q)) (hl : (digs q).length ≤ 30000) (hT : T32 w) (hP : (p : Int) = P) (p2 : 2 ≤ p) (p4 : p ≤ 400) (hb : p ≤ blen q) (y0 : -900000 ≤ y) (y1 : y ≤ 900000) (hM : nm (sg true (q / 2 ^ (blen q - p))) = M) (hE : nx (sg true (q / 2 ^ (blen q - p))) (y + (blen q - p : Nat)) = E) (hlow : decide (q % 2 ^ (blen q - p) ≠ 0) = false):
    Calls Tryd.prog 29 #[.agg #[.bool true, .slice A (digs q).length c, .int .i64 y], .bool false, .int .i64 P, .bool false] w fun e w' => Yr M E w e w' := by
  have q0 : q ≠ 0 := by rintro rfl; rw [blen_zero] at hb; omega
  have b1 : blen q ≤ 960000 := by have := bl_bd (m := (q : Int)) (k := 30000) (by rw [Int.natAbs_natCast]; exact hl); rwa [Int.natAbs_natCast] at this
  obtain ⟨z, hz⟩ : ∃ z : Int, (blen q : Int) = z := ⟨_, rfl⟩
  obtain ⟨d, hd⟩ : ∃ d : Nat, blen q - p = d := ⟨_, rfl⟩
  rw [hd] at hM hE hlow
  have hzd : z - P = (d : Int) := by omega
  have htl := tz_low (q := q) (d := d) q0
  rw [hlow] at htl
  obtain ⟨t, ht⟩ : ∃ t : Int, ((tz q : Nat) : Int) = t := ⟨_, rfl⟩
  have d1 : decide (t < z - P) = false := by rw [← htl, decide_eq_decide]; omega
  have HTZ := Lib.hid ht
  have z0 : 0 ≤ z := by omega
  have z1 : z ≤ 960000 := by omega
  have pp0 : 2 ≤ P := by omega
  have pp1 : P ≤ 400 := by omega
  have zp0 : 0 ≤ z - P := by omega
  have HZ := Lib.hid hz
  have HZD := Lib.hid hzd
  have LX := Lib.hid hl
  have Q0 := Lib.hid q0
  have hlk := digs_len_mono _ _ (Nat.div_le_self q (2 ^ d))
  have hdk : d ≤ 960000 := by omega
  have hlk1 := digs_add_len (q / 2 ^ d) 1
  have l1 : (digs 1).length = 1 := by rw [digs_one (by omega) (by omega)]; rfl
  have LK1 := Lib.hid (show (digs (q / 2 ^ d + 1)).length ≤ 30001 by omega)
  have LK := Lib.hid (show (digs (q / 2 ^ d)).length ≤ 30000 by omega)
  obtain ⟨k, hk⟩ : ∃ k, q / 2 ^ d = k := ⟨_, rfl⟩
  rw [hk] at hM hE LK LK1
  have HK := Lib.hid hk
  have HM := Lib.hid hM
  have HE := Lib.hid (show nx (sg true (k)) (y + (z - P)) = E by rw [hzd]; exact hE)
  have SHR := Lib.hid (fun W (hW : Dg W A c (digs q)) => shr_i (i := z - P) hW (by omega) hzd (by omega))
  rw [hk] at SHR
  have HT := Lib.hid hT
  clear hT
  have L0 := Lib.hid ((live_start w).add h)
  clear h hl hP hb hz hd hzd q0 hM hE hlk hlk1 l1 hk b1 hlow htl ht
  go_enter Tryd.func29, Tryd.ntmps29
  go_wp2_with fail
  obtain ⟨v1, hW⟩ : ∃ W : World, W = ((w.alloc (.cells #[.bool true, .slice A (digs q).length c, .int .i64 y] 26)).alloc (.cells #[.bool false, .slice none 0 0, .int .i64 0] 26)) := ⟨_, rfl⟩
  rw [← hW]
  have hb : Below w.heap.size w v1 := by rw [hW]; exact (((Below.refl _ _).alloc (by simp <;> omega) _).alloc (by simp <;> omega) _)
  have L1 := Lib.hid (L0.out.step hb)
  have Rx_1 := Lib.hid (show v1.heap[w.heap.size]? = some (.cells #[.bool true, .slice A (digs q).length c, .int .i64 y] 26 (0, 0)) by rw [hW]; have := heap_alloc_new w (.cells #[.bool true, .slice A (digs q).length c, .int .i64 y] 26); rw [heap_alloc_old _ _ (by simp <;> omega)]; simpa using this)
  have Gx : w.heap.size ≤ w.heap.size := by have := L0.out.1.size; omega
  have Rr_1 := Lib.hid (show v1.heap[w.heap.size + 1]? = some (.cells #[.bool false, .slice none 0 0, .int .i64 0] 26 (0, 0)) by rw [hW]; have := heap_alloc_new (w.alloc (.cells #[.bool true, .slice A (digs q).length c, .int .i64 y] 26)) (.cells #[.bool false, .slice none 0 0, .int .i64 0] 26); simpa using this)
  have Gr : w.heap.size ≤ w.heap.size + 1 := by have := L0.out.1.size; omega
  have Nxr : w.heap.size < w.heap.size + 1 := by omega
  clear hW hb
  refine (bits_b (L1.out.get (A := A) (c := c) (xs := digs q) (by simp)) (Nat.le_trans LX.out (by omega)) HZ.out).mono ?_
  rintro e w2 ⟨rfl, rfl⟩
  have fx0 := row_c (i := 0) Rx_1.out rfl
  have zx0 := frozen_of_row _ _ 0 _ _ Rx_1.out
  have fx1 := row_c (i := 1) Rx_1.out rfl
  have zx1 := frozen_of_row _ _ 1 _ _ Rx_1.out
  have fx2 := row_c (i := 2) Rx_1.out rfl
  have zx2 := frozen_of_row _ _ 2 _ _ Rx_1.out
  have xx := heap_lt Rx_1.out
  go_wp2_with fail
  refine (SHR.out _ (L1.out.get (A := A) (c := c) (xs := digs q) (by simp))).mono ?_
  rintro e w3 ⟨A3, c3, rfl, hd, hb⟩
  have L3 := Lib.hid ((L1.out.step hb).add hd)
  clear fx0 zx0 fx1 zx1 fx2 zx2 xx
  have Rx_3 := Lib.hid (cells_of Rx_1.out hb)
  have Rr_3 := Lib.hid (cells_of Rr_1.out hb)
  clear hb hd
  have fx0 := row_c (i := 0) Rx_3.out rfl
  have zx0 := frozen_of_row _ _ 0 _ _ Rx_3.out
  have fx1 := row_c (i := 1) Rx_3.out rfl
  have zx1 := frozen_of_row _ _ 1 _ _ Rx_3.out
  have fx2 := row_c (i := 2) Rx_3.out rfl
  have zx2 := frozen_of_row _ _ 2 _ _ Rx_3.out
  have xx := heap_lt Rx_3.out
  go_wp2_with fail
  refine (zeros_i (L3.out.get (A := A) (c := c) (xs := digs q) (by simp)) (Nat.le_trans LX.out (by omega)) Q0.out (t32_live HT.out L3.out) HTZ.out).mono ?_
  rintro e w4 ⟨rfl, rfl⟩
  clear fx0 zx0 fx1 zx1 fx2 zx2 xx
  have fx0 := row_c (i := 0) Rx_3.out rfl
  have zx0 := frozen_of_row _ _ 0 _ _ Rx_3.out
  have fx1 := row_c (i := 1) Rx_3.out rfl
  have zx1 := frozen_of_row _ _ 1 _ _ Rx_3.out
  have fx2 := row_c (i := 2) Rx_3.out rfl
  have zx2 := frozen_of_row _ _ 2 _ _ Rx_3.out
  have xx := heap_lt Rx_3.out
  clear fx0 zx0 fx1 zx1 fx2 zx2 xx
  have fx0 := row_c (i := 0) Rx_3.out rfl
  have zx0 := frozen_of_row _ _ 0 _ _ Rx_3.out
  have fx1 := row_c (i := 1) Rx_3.out rfl
  have zx1 := frozen_of_row _ _ 1 _ _ Rx_3.out
  have fx2 := row_c (i := 2) Rx_3.out rfl
  have zx2 := frozen_of_row _ _ 2 _ _ Rx_3.out
  have xx := heap_lt Rx_3.out
  go_wp2_with fail
  refine (odd_any A3 c3 true k (y + (z - P)) M E _ (L3.out.get (A := A3) (c := c3) (xs := digs k) (by simp)) (Nat.le_trans LK.out (by omega)) (t32_live HT.out L3.out) ⟨by omega, by omega⟩ HM.out HE.out).mono ?_
  rintro e w5 ⟨A5, c5, rfl, hd, hb⟩
  have L5 := Lib.hid ((L3.out.step hb).add hd)
  clear fx0 zx0 fx1 zx1 fx2 zx2 xx
  have Rx_5 := Lib.hid (cells_of Rx_3.out hb)
  have Rr_5 := Lib.hid (cells_of Rr_3.out hb)
  clear hb hd
  have fr0 := row_c (i := 0) Rr_5.out rfl
  have zr0 := frozen_of_row _ _ 0 _ _ Rr_5.out
  have fr1 := row_c (i := 1) Rr_5.out rfl
  have zr1 := frozen_of_row _ _ 1 _ _ Rr_5.out
  have fr2 := row_c (i := 2) Rr_5.out rfl
  have zr2 := frozen_of_row _ _ 2 _ _ Rr_5.out
  have xr := heap_lt Rr_5.out
  go_wp2
  refine bodyPost_ret (v := .agg #[.bool (decide (M < 0)), .slice A5 (digs M.natAbs).length c5, .int .i64 E]) (by simp [results, Tryd.results29, go_sem, fr0, fr1, fr2]) rfl ?_
  
  refine ⟨A5, c5, rfl, ?_, ?_⟩
  · exact (fin3 L5.out Rr_5.out noint3 Gr).get (A := A5) (c := c5) (xs := digs M.natAbs) (by simp)
  · exact (fin3 L5.out Rr_5.out noint3 Gr).1

set_option maxHeartbeats 4000000 in
set_option maxRecDepth 100000 in
theorem cut_nnf_t (A : Option Addr) (c : Nat) (q : Nat) (y P : Int) (p : Nat) (M E : Int) (w : World) (h : Dg w A c (digs q)) (hl : (digs q).length ≤ 30000) (hT : T32 w) (hP : (p : Int) = P) (p2 : 2 ≤ p) (p4 : p ≤ 400) (hb : p ≤ blen q) (y0 : -900000 ≤ y) (y1 : y ≤ 900000) (hM : nm (sg true (q / 2 ^ (blen q - p))) = M) (hE : nx (sg true (q / 2 ^ (blen q - p))) (y + (blen q - p : Nat)) = E) (hlow : decide (q % 2 ^ (blen q - p) ≠ 0) = false):
    Calls Tryd.prog 29 #[.agg #[.bool true, .slice A (digs q).length c, .int .i64 y], .bool false, .int .i64 P, .bool true] w fun e w' => Yr M E w e w' := by
  have q0 : q ≠ 0 := by rintro rfl; rw [blen_zero] at hb; omega
  have b1 : blen q ≤ 960000 := by have := bl_bd (m := (q : Int)) (k := 30000) (by rw [Int.natAbs_natCast]; exact hl); rwa [Int.natAbs_natCast] at this
  obtain ⟨z, hz⟩ : ∃ z : Int, (blen q : Int) = z := ⟨_, rfl⟩
  obtain ⟨d, hd⟩ : ∃ d : Nat, blen q - p = d := ⟨_, rfl⟩
  rw [hd] at hM hE hlow
  have hzd : z - P = (d : Int) := by omega
  have htl := tz_low (q := q) (d := d) q0
  rw [hlow] at htl
  obtain ⟨t, ht⟩ : ∃ t : Int, ((tz q : Nat) : Int) = t := ⟨_, rfl⟩
  have d1 : decide (t < z - P) = false := by rw [← htl, decide_eq_decide]; omega
  have HTZ := Lib.hid ht
  have z0 : 0 ≤ z := by omega
  have z1 : z ≤ 960000 := by omega
  have pp0 : 2 ≤ P := by omega
  have pp1 : P ≤ 400 := by omega
  have zp0 : 0 ≤ z - P := by omega
  have HZ := Lib.hid hz
  have HZD := Lib.hid hzd
  have LX := Lib.hid hl
  have Q0 := Lib.hid q0
  have hlk := digs_len_mono _ _ (Nat.div_le_self q (2 ^ d))
  have hdk : d ≤ 960000 := by omega
  have hlk1 := digs_add_len (q / 2 ^ d) 1
  have l1 : (digs 1).length = 1 := by rw [digs_one (by omega) (by omega)]; rfl
  have LK1 := Lib.hid (show (digs (q / 2 ^ d + 1)).length ≤ 30001 by omega)
  have LK := Lib.hid (show (digs (q / 2 ^ d)).length ≤ 30000 by omega)
  obtain ⟨k, hk⟩ : ∃ k, q / 2 ^ d = k := ⟨_, rfl⟩
  rw [hk] at hM hE LK LK1
  have HK := Lib.hid hk
  have HM := Lib.hid hM
  have HE := Lib.hid (show nx (sg true (k)) (y + (z - P)) = E by rw [hzd]; exact hE)
  have SHR := Lib.hid (fun W (hW : Dg W A c (digs q)) => shr_i (i := z - P) hW (by omega) hzd (by omega))
  rw [hk] at SHR
  have HT := Lib.hid hT
  clear hT
  have L0 := Lib.hid ((live_start w).add h)
  clear h hl hP hb hz hd hzd q0 hM hE hlk hlk1 l1 hk b1 hlow htl ht
  go_enter Tryd.func29, Tryd.ntmps29
  go_wp2_with fail
  obtain ⟨v1, hW⟩ : ∃ W : World, W = ((w.alloc (.cells #[.bool true, .slice A (digs q).length c, .int .i64 y] 26)).alloc (.cells #[.bool false, .slice none 0 0, .int .i64 0] 26)) := ⟨_, rfl⟩
  rw [← hW]
  have hb : Below w.heap.size w v1 := by rw [hW]; exact (((Below.refl _ _).alloc (by simp <;> omega) _).alloc (by simp <;> omega) _)
  have L1 := Lib.hid (L0.out.step hb)
  have Rx_1 := Lib.hid (show v1.heap[w.heap.size]? = some (.cells #[.bool true, .slice A (digs q).length c, .int .i64 y] 26 (0, 0)) by rw [hW]; have := heap_alloc_new w (.cells #[.bool true, .slice A (digs q).length c, .int .i64 y] 26); rw [heap_alloc_old _ _ (by simp <;> omega)]; simpa using this)
  have Gx : w.heap.size ≤ w.heap.size := by have := L0.out.1.size; omega
  have Rr_1 := Lib.hid (show v1.heap[w.heap.size + 1]? = some (.cells #[.bool false, .slice none 0 0, .int .i64 0] 26 (0, 0)) by rw [hW]; have := heap_alloc_new (w.alloc (.cells #[.bool true, .slice A (digs q).length c, .int .i64 y] 26)) (.cells #[.bool false, .slice none 0 0, .int .i64 0] 26); simpa using this)
  have Gr : w.heap.size ≤ w.heap.size + 1 := by have := L0.out.1.size; omega
  have Nxr : w.heap.size < w.heap.size + 1 := by omega
  clear hW hb
  refine (bits_b (L1.out.get (A := A) (c := c) (xs := digs q) (by simp)) (Nat.le_trans LX.out (by omega)) HZ.out).mono ?_
  rintro e w2 ⟨rfl, rfl⟩
  have fx0 := row_c (i := 0) Rx_1.out rfl
  have zx0 := frozen_of_row _ _ 0 _ _ Rx_1.out
  have fx1 := row_c (i := 1) Rx_1.out rfl
  have zx1 := frozen_of_row _ _ 1 _ _ Rx_1.out
  have fx2 := row_c (i := 2) Rx_1.out rfl
  have zx2 := frozen_of_row _ _ 2 _ _ Rx_1.out
  have xx := heap_lt Rx_1.out
  go_wp2_with fail
  refine (SHR.out _ (L1.out.get (A := A) (c := c) (xs := digs q) (by simp))).mono ?_
  rintro e w3 ⟨A3, c3, rfl, hd, hb⟩
  have L3 := Lib.hid ((L1.out.step hb).add hd)
  clear fx0 zx0 fx1 zx1 fx2 zx2 xx
  have Rx_3 := Lib.hid (cells_of Rx_1.out hb)
  have Rr_3 := Lib.hid (cells_of Rr_1.out hb)
  clear hb hd
  have fx0 := row_c (i := 0) Rx_3.out rfl
  have zx0 := frozen_of_row _ _ 0 _ _ Rx_3.out
  have fx1 := row_c (i := 1) Rx_3.out rfl
  have zx1 := frozen_of_row _ _ 1 _ _ Rx_3.out
  have fx2 := row_c (i := 2) Rx_3.out rfl
  have zx2 := frozen_of_row _ _ 2 _ _ Rx_3.out
  have xx := heap_lt Rx_3.out
  go_wp2_with fail
  refine (zeros_i (L3.out.get (A := A) (c := c) (xs := digs q) (by simp)) (Nat.le_trans LX.out (by omega)) Q0.out (t32_live HT.out L3.out) HTZ.out).mono ?_
  rintro e w4 ⟨rfl, rfl⟩
  clear fx0 zx0 fx1 zx1 fx2 zx2 xx
  have fx0 := row_c (i := 0) Rx_3.out rfl
  have zx0 := frozen_of_row _ _ 0 _ _ Rx_3.out
  have fx1 := row_c (i := 1) Rx_3.out rfl
  have zx1 := frozen_of_row _ _ 1 _ _ Rx_3.out
  have fx2 := row_c (i := 2) Rx_3.out rfl
  have zx2 := frozen_of_row _ _ 2 _ _ Rx_3.out
  have xx := heap_lt Rx_3.out
  clear fx0 zx0 fx1 zx1 fx2 zx2 xx
  have fx0 := row_c (i := 0) Rx_3.out rfl
  have zx0 := frozen_of_row _ _ 0 _ _ Rx_3.out
  have fx1 := row_c (i := 1) Rx_3.out rfl
  have zx1 := frozen_of_row _ _ 1 _ _ Rx_3.out
  have fx2 := row_c (i := 2) Rx_3.out rfl
  have zx2 := frozen_of_row _ _ 2 _ _ Rx_3.out
  have xx := heap_lt Rx_3.out
  go_wp2_with fail
  refine (odd_any A3 c3 true k (y + (z - P)) M E _ (L3.out.get (A := A3) (c := c3) (xs := digs k) (by simp)) (Nat.le_trans LK.out (by omega)) (t32_live HT.out L3.out) ⟨by omega, by omega⟩ HM.out HE.out).mono ?_
  rintro e w5 ⟨A5, c5, rfl, hd, hb⟩
  have L5 := Lib.hid ((L3.out.step hb).add hd)
  clear fx0 zx0 fx1 zx1 fx2 zx2 xx
  have Rx_5 := Lib.hid (cells_of Rx_3.out hb)
  have Rr_5 := Lib.hid (cells_of Rr_3.out hb)
  clear hb hd
  have fr0 := row_c (i := 0) Rr_5.out rfl
  have zr0 := frozen_of_row _ _ 0 _ _ Rr_5.out
  have fr1 := row_c (i := 1) Rr_5.out rfl
  have zr1 := frozen_of_row _ _ 1 _ _ Rr_5.out
  have fr2 := row_c (i := 2) Rr_5.out rfl
  have zr2 := frozen_of_row _ _ 2 _ _ Rr_5.out
  have xr := heap_lt Rr_5.out
  go_wp2
  refine bodyPost_ret (v := .agg #[.bool (decide (M < 0)), .slice A5 (digs M.natAbs).length c5, .int .i64 E]) (by simp [results, Tryd.results29, go_sem, fr0, fr1, fr2]) rfl ?_
  
  refine ⟨A5, c5, rfl, ?_, ?_⟩
  · exact (fin3 L5.out Rr_5.out noint3 Gr).get (A := A5) (c := c5) (xs := digs M.natAbs) (by simp)
  · exact (fin3 L5.out Rr_5.out noint3 Gr).1

set_option maxHeartbeats 4000000 in
set_option maxRecDepth 100000 in
theorem cut_nnf_f (A : Option Addr) (c : Nat) (q : Nat) (y P : Int) (p : Nat) (M E : Int) (w : World) (h : Dg w A c (digs q)) (hl : (digs q).length ≤ 30000) (hT : T32 w) (hP : (p : Int) = P) (p2 : 2 ≤ p) (p4 : p ≤ 400) (hb : p ≤ blen q) (y0 : -900000 ≤ y) (y1 : y ≤ 900000) (hM : nm (sg false (q / 2 ^ (blen q - p))) = M) (hE : nx (sg false (q / 2 ^ (blen q - p))) (y + (blen q - p : Nat)) = E) (hlow : decide (q % 2 ^ (blen q - p) ≠ 0) = false):
    Calls Tryd.prog 29 #[.agg #[.bool false, .slice A (digs q).length c, .int .i64 y], .bool false, .int .i64 P, .bool false] w fun e w' => Yr M E w e w' := by
  have q0 : q ≠ 0 := by rintro rfl; rw [blen_zero] at hb; omega
  have b1 : blen q ≤ 960000 := by have := bl_bd (m := (q : Int)) (k := 30000) (by rw [Int.natAbs_natCast]; exact hl); rwa [Int.natAbs_natCast] at this
  obtain ⟨z, hz⟩ : ∃ z : Int, (blen q : Int) = z := ⟨_, rfl⟩
  obtain ⟨d, hd⟩ : ∃ d : Nat, blen q - p = d := ⟨_, rfl⟩
  rw [hd] at hM hE hlow
  have hzd : z - P = (d : Int) := by omega
  have htl := tz_low (q := q) (d := d) q0
  rw [hlow] at htl
  obtain ⟨t, ht⟩ : ∃ t : Int, ((tz q : Nat) : Int) = t := ⟨_, rfl⟩
  have d1 : decide (t < z - P) = false := by rw [← htl, decide_eq_decide]; omega
  have HTZ := Lib.hid ht
  have z0 : 0 ≤ z := by omega
  have z1 : z ≤ 960000 := by omega
  have pp0 : 2 ≤ P := by omega
  have pp1 : P ≤ 400 := by omega
  have zp0 : 0 ≤ z - P := by omega
  have HZ := Lib.hid hz
  have HZD := Lib.hid hzd
  have LX := Lib.hid hl
  have Q0 := Lib.hid q0
  have hlk := digs_len_mono _ _ (Nat.div_le_self q (2 ^ d))
  have hdk : d ≤ 960000 := by omega
  have hlk1 := digs_add_len (q / 2 ^ d) 1
  have l1 : (digs 1).length = 1 := by rw [digs_one (by omega) (by omega)]; rfl
  have LK1 := Lib.hid (show (digs (q / 2 ^ d + 1)).length ≤ 30001 by omega)
  have LK := Lib.hid (show (digs (q / 2 ^ d)).length ≤ 30000 by omega)
  obtain ⟨k, hk⟩ : ∃ k, q / 2 ^ d = k := ⟨_, rfl⟩
  rw [hk] at hM hE LK LK1
  have HK := Lib.hid hk
  have HM := Lib.hid hM
  have HE := Lib.hid (show nx (sg false (k)) (y + (z - P)) = E by rw [hzd]; exact hE)
  have SHR := Lib.hid (fun W (hW : Dg W A c (digs q)) => shr_i (i := z - P) hW (by omega) hzd (by omega))
  rw [hk] at SHR
  have HT := Lib.hid hT
  clear hT
  have L0 := Lib.hid ((live_start w).add h)
  clear h hl hP hb hz hd hzd q0 hM hE hlk hlk1 l1 hk b1 hlow htl ht
  go_enter Tryd.func29, Tryd.ntmps29
  go_wp2_with fail
  obtain ⟨v1, hW⟩ : ∃ W : World, W = ((w.alloc (.cells #[.bool false, .slice A (digs q).length c, .int .i64 y] 26)).alloc (.cells #[.bool false, .slice none 0 0, .int .i64 0] 26)) := ⟨_, rfl⟩
  rw [← hW]
  have hb : Below w.heap.size w v1 := by rw [hW]; exact (((Below.refl _ _).alloc (by simp <;> omega) _).alloc (by simp <;> omega) _)
  have L1 := Lib.hid (L0.out.step hb)
  have Rx_1 := Lib.hid (show v1.heap[w.heap.size]? = some (.cells #[.bool false, .slice A (digs q).length c, .int .i64 y] 26 (0, 0)) by rw [hW]; have := heap_alloc_new w (.cells #[.bool false, .slice A (digs q).length c, .int .i64 y] 26); rw [heap_alloc_old _ _ (by simp <;> omega)]; simpa using this)
  have Gx : w.heap.size ≤ w.heap.size := by have := L0.out.1.size; omega
  have Rr_1 := Lib.hid (show v1.heap[w.heap.size + 1]? = some (.cells #[.bool false, .slice none 0 0, .int .i64 0] 26 (0, 0)) by rw [hW]; have := heap_alloc_new (w.alloc (.cells #[.bool false, .slice A (digs q).length c, .int .i64 y] 26)) (.cells #[.bool false, .slice none 0 0, .int .i64 0] 26); simpa using this)
  have Gr : w.heap.size ≤ w.heap.size + 1 := by have := L0.out.1.size; omega
  have Nxr : w.heap.size < w.heap.size + 1 := by omega
  clear hW hb
  refine (bits_b (L1.out.get (A := A) (c := c) (xs := digs q) (by simp)) (Nat.le_trans LX.out (by omega)) HZ.out).mono ?_
  rintro e w2 ⟨rfl, rfl⟩
  have fx0 := row_c (i := 0) Rx_1.out rfl
  have zx0 := frozen_of_row _ _ 0 _ _ Rx_1.out
  have fx1 := row_c (i := 1) Rx_1.out rfl
  have zx1 := frozen_of_row _ _ 1 _ _ Rx_1.out
  have fx2 := row_c (i := 2) Rx_1.out rfl
  have zx2 := frozen_of_row _ _ 2 _ _ Rx_1.out
  have xx := heap_lt Rx_1.out
  go_wp2_with fail
  refine (SHR.out _ (L1.out.get (A := A) (c := c) (xs := digs q) (by simp))).mono ?_
  rintro e w3 ⟨A3, c3, rfl, hd, hb⟩
  have L3 := Lib.hid ((L1.out.step hb).add hd)
  clear fx0 zx0 fx1 zx1 fx2 zx2 xx
  have Rx_3 := Lib.hid (cells_of Rx_1.out hb)
  have Rr_3 := Lib.hid (cells_of Rr_1.out hb)
  clear hb hd
  have fx0 := row_c (i := 0) Rx_3.out rfl
  have zx0 := frozen_of_row _ _ 0 _ _ Rx_3.out
  have fx1 := row_c (i := 1) Rx_3.out rfl
  have zx1 := frozen_of_row _ _ 1 _ _ Rx_3.out
  have fx2 := row_c (i := 2) Rx_3.out rfl
  have zx2 := frozen_of_row _ _ 2 _ _ Rx_3.out
  have xx := heap_lt Rx_3.out
  go_wp2_with fail
  refine (zeros_i (L3.out.get (A := A) (c := c) (xs := digs q) (by simp)) (Nat.le_trans LX.out (by omega)) Q0.out (t32_live HT.out L3.out) HTZ.out).mono ?_
  rintro e w4 ⟨rfl, rfl⟩
  clear fx0 zx0 fx1 zx1 fx2 zx2 xx
  have fx0 := row_c (i := 0) Rx_3.out rfl
  have zx0 := frozen_of_row _ _ 0 _ _ Rx_3.out
  have fx1 := row_c (i := 1) Rx_3.out rfl
  have zx1 := frozen_of_row _ _ 1 _ _ Rx_3.out
  have fx2 := row_c (i := 2) Rx_3.out rfl
  have zx2 := frozen_of_row _ _ 2 _ _ Rx_3.out
  have xx := heap_lt Rx_3.out
  clear fx0 zx0 fx1 zx1 fx2 zx2 xx
  have fx0 := row_c (i := 0) Rx_3.out rfl
  have zx0 := frozen_of_row _ _ 0 _ _ Rx_3.out
  have fx1 := row_c (i := 1) Rx_3.out rfl
  have zx1 := frozen_of_row _ _ 1 _ _ Rx_3.out
  have fx2 := row_c (i := 2) Rx_3.out rfl
  have zx2 := frozen_of_row _ _ 2 _ _ Rx_3.out
  have xx := heap_lt Rx_3.out
  go_wp2_with fail
  refine (odd_any A3 c3 false k (y + (z - P)) M E _ (L3.out.get (A := A3) (c := c3) (xs := digs k) (by simp)) (Nat.le_trans LK.out (by omega)) (t32_live HT.out L3.out) ⟨by omega, by omega⟩ HM.out HE.out).mono ?_
  rintro e w5 ⟨A5, c5, rfl, hd, hb⟩
  have L5 := Lib.hid ((L3.out.step hb).add hd)
  clear fx0 zx0 fx1 zx1 fx2 zx2 xx
  have Rx_5 := Lib.hid (cells_of Rx_3.out hb)
  have Rr_5 := Lib.hid (cells_of Rr_3.out hb)
  clear hb hd
  have fr0 := row_c (i := 0) Rr_5.out rfl
  have zr0 := frozen_of_row _ _ 0 _ _ Rr_5.out
  have fr1 := row_c (i := 1) Rr_5.out rfl
  have zr1 := frozen_of_row _ _ 1 _ _ Rr_5.out
  have fr2 := row_c (i := 2) Rr_5.out rfl
  have zr2 := frozen_of_row _ _ 2 _ _ Rr_5.out
  have xr := heap_lt Rr_5.out
  go_wp2
  refine bodyPost_ret (v := .agg #[.bool (decide (M < 0)), .slice A5 (digs M.natAbs).length c5, .int .i64 E]) (by simp [results, Tryd.results29, go_sem, fr0, fr1, fr2]) rfl ?_
  
  refine ⟨A5, c5, rfl, ?_, ?_⟩
  · exact (fin3 L5.out Rr_5.out noint3 Gr).get (A := A5) (c := c5) (xs := digs M.natAbs) (by simp)
  · exact (fin3 L5.out Rr_5.out noint3 Gr).1

set_option maxHeartbeats 4000000 in
set_option maxRecDepth 100000 in
theorem cut_nla_t (A : Option Addr) (c : Nat) (q : Nat) (y P : Int) (p : Nat) (M E : Int) (w : World) (h : Dg w A c (digs q)) (hl : (digs q).length ≤ 30000) (hT : T32 w) (hP : (p : Int) = P) (p2 : 2 ≤ p) (p4 : p ≤ 400) (hb : p ≤ blen q) (y0 : -900000 ≤ y) (y1 : y ≤ 900000) (hM : nm (sg false (q / 2 ^ (blen q - p) + 1)) = M) (hE : nx (sg false (q / 2 ^ (blen q - p) + 1)) (y + (blen q - p : Nat)) = E) (hlow : decide (q % 2 ^ (blen q - p) ≠ 0) = true):
    Calls Tryd.prog 29 #[.agg #[.bool false, .slice A (digs q).length c, .int .i64 y], .bool false, .int .i64 P, .bool true] w fun e w' => Yr M E w e w' := by
  have q0 : q ≠ 0 := by rintro rfl; rw [blen_zero] at hb; omega
  have b1 : blen q ≤ 960000 := by have := bl_bd (m := (q : Int)) (k := 30000) (by rw [Int.natAbs_natCast]; exact hl); rwa [Int.natAbs_natCast] at this
  obtain ⟨z, hz⟩ : ∃ z : Int, (blen q : Int) = z := ⟨_, rfl⟩
  obtain ⟨d, hd⟩ : ∃ d : Nat, blen q - p = d := ⟨_, rfl⟩
  rw [hd] at hM hE hlow
  have hzd : z - P = (d : Int) := by omega
  have htl := tz_low (q := q) (d := d) q0
  rw [hlow] at htl
  obtain ⟨t, ht⟩ : ∃ t : Int, ((tz q : Nat) : Int) = t := ⟨_, rfl⟩
  have d1 : decide (t < z - P) = true := by rw [← htl, decide_eq_decide]; omega
  have HTZ := Lib.hid ht
  have z0 : 0 ≤ z := by omega
  have z1 : z ≤ 960000 := by omega
  have pp0 : 2 ≤ P := by omega
  have pp1 : P ≤ 400 := by omega
  have zp0 : 0 ≤ z - P := by omega
  have HZ := Lib.hid hz
  have HZD := Lib.hid hzd
  have LX := Lib.hid hl
  have Q0 := Lib.hid q0
  have hlk := digs_len_mono _ _ (Nat.div_le_self q (2 ^ d))
  have hdk : d ≤ 960000 := by omega
  have hlk1 := digs_add_len (q / 2 ^ d) 1
  have l1 : (digs 1).length = 1 := by rw [digs_one (by omega) (by omega)]; rfl
  have LK1 := Lib.hid (show (digs (q / 2 ^ d + 1)).length ≤ 30001 by omega)
  have LK := Lib.hid (show (digs (q / 2 ^ d)).length ≤ 30000 by omega)
  obtain ⟨k, hk⟩ : ∃ k, q / 2 ^ d = k := ⟨_, rfl⟩
  rw [hk] at hM hE LK LK1
  have HK := Lib.hid hk
  have HM := Lib.hid hM
  have HE := Lib.hid (show nx (sg false (k + 1)) (y + (z - P)) = E by rw [hzd]; exact hE)
  have SHR := Lib.hid (fun W (hW : Dg W A c (digs q)) => shr_i (i := z - P) hW (by omega) hzd (by omega))
  rw [hk] at SHR
  have HT := Lib.hid hT
  clear hT
  have L0 := Lib.hid ((live_start w).add h)
  clear h hl hP hb hz hd hzd q0 hM hE hlk hlk1 l1 hk b1 hlow htl ht
  go_enter Tryd.func29, Tryd.ntmps29
  go_wp2_with fail
  obtain ⟨v1, hW⟩ : ∃ W : World, W = ((w.alloc (.cells #[.bool false, .slice A (digs q).length c, .int .i64 y] 26)).alloc (.cells #[.bool false, .slice none 0 0, .int .i64 0] 26)) := ⟨_, rfl⟩
  rw [← hW]
  have hb : Below w.heap.size w v1 := by rw [hW]; exact (((Below.refl _ _).alloc (by simp <;> omega) _).alloc (by simp <;> omega) _)
  have L1 := Lib.hid (L0.out.step hb)
  have Rx_1 := Lib.hid (show v1.heap[w.heap.size]? = some (.cells #[.bool false, .slice A (digs q).length c, .int .i64 y] 26 (0, 0)) by rw [hW]; have := heap_alloc_new w (.cells #[.bool false, .slice A (digs q).length c, .int .i64 y] 26); rw [heap_alloc_old _ _ (by simp <;> omega)]; simpa using this)
  have Gx : w.heap.size ≤ w.heap.size := by have := L0.out.1.size; omega
  have Rr_1 := Lib.hid (show v1.heap[w.heap.size + 1]? = some (.cells #[.bool false, .slice none 0 0, .int .i64 0] 26 (0, 0)) by rw [hW]; have := heap_alloc_new (w.alloc (.cells #[.bool false, .slice A (digs q).length c, .int .i64 y] 26)) (.cells #[.bool false, .slice none 0 0, .int .i64 0] 26); simpa using this)
  have Gr : w.heap.size ≤ w.heap.size + 1 := by have := L0.out.1.size; omega
  have Nxr : w.heap.size < w.heap.size + 1 := by omega
  clear hW hb
  refine (bits_b (L1.out.get (A := A) (c := c) (xs := digs q) (by simp)) (Nat.le_trans LX.out (by omega)) HZ.out).mono ?_
  rintro e w2 ⟨rfl, rfl⟩
  have fx0 := row_c (i := 0) Rx_1.out rfl
  have zx0 := frozen_of_row _ _ 0 _ _ Rx_1.out
  have fx1 := row_c (i := 1) Rx_1.out rfl
  have zx1 := frozen_of_row _ _ 1 _ _ Rx_1.out
  have fx2 := row_c (i := 2) Rx_1.out rfl
  have zx2 := frozen_of_row _ _ 2 _ _ Rx_1.out
  have xx := heap_lt Rx_1.out
  go_wp2_with fail
  refine (SHR.out _ (L1.out.get (A := A) (c := c) (xs := digs q) (by simp))).mono ?_
  rintro e w3 ⟨A3, c3, rfl, hd, hb⟩
  have L3 := Lib.hid ((L1.out.step hb).add hd)
  clear fx0 zx0 fx1 zx1 fx2 zx2 xx
  have Rx_3 := Lib.hid (cells_of Rx_1.out hb)
  have Rr_3 := Lib.hid (cells_of Rr_1.out hb)
  clear hb hd
  have fx0 := row_c (i := 0) Rx_3.out rfl
  have zx0 := frozen_of_row _ _ 0 _ _ Rx_3.out
  have fx1 := row_c (i := 1) Rx_3.out rfl
  have zx1 := frozen_of_row _ _ 1 _ _ Rx_3.out
  have fx2 := row_c (i := 2) Rx_3.out rfl
  have zx2 := frozen_of_row _ _ 2 _ _ Rx_3.out
  have xx := heap_lt Rx_3.out
  go_wp2_with fail
  refine (zeros_i (L3.out.get (A := A) (c := c) (xs := digs q) (by simp)) (Nat.le_trans LX.out (by omega)) Q0.out (t32_live HT.out L3.out) HTZ.out).mono ?_
  rintro e w4 ⟨rfl, rfl⟩
  clear fx0 zx0 fx1 zx1 fx2 zx2 xx
  have fx0 := row_c (i := 0) Rx_3.out rfl
  have zx0 := frozen_of_row _ _ 0 _ _ Rx_3.out
  have fx1 := row_c (i := 1) Rx_3.out rfl
  have zx1 := frozen_of_row _ _ 1 _ _ Rx_3.out
  have fx2 := row_c (i := 2) Rx_3.out rfl
  have zx2 := frozen_of_row _ _ 2 _ _ Rx_3.out
  have xx := heap_lt Rx_3.out
  go_wp2_with fail
  obtain ⟨w5, hW⟩ : ∃ W : World, W = (w3.alloc (.cells #[.int .u32 1] 41)) := ⟨_, rfl⟩
  rw [← hW]
  have hb : Below w3.heap.size w3 w5 := by rw [hW]; exact ((Below.refl _ _).alloc (by simp <;> omega) _)
  have L5 := Lib.hid (L3.out.step hb)
  have Rx_5 := Lib.hid (cells_of Rx_3.out hb)
  have Rr_5 := Lib.hid (cells_of Rr_3.out hb)
  have Rone_5 := Lib.hid (show w5.heap[w3.heap.size]? = some (.cells #[.int .u32 1] 41 (0, 0)) by rw [hW]; have := heap_alloc_new w3 (.cells #[.int .u32 1] 41); simpa using this)
  have Gone : w.heap.size ≤ w3.heap.size := by have := L3.out.1.size; omega
  have Nxone : w.heap.size < w3.heap.size := by have := heap_lt Rx_3.out; omega
  have Nrone : w.heap.size + 1 < w3.heap.size := by have := heap_lt Rr_3.out; omega
  clear hW hb
  clear fx0 zx0 fx1 zx1 fx2 zx2 xx
  refine (nadd1 (L5.out.get (A := A3) (c := c3) (xs := digs k) (by simp)) (Nat.le_trans LK.out (by omega)) Rone_5.out).mono ?_
  rintro e w6 ⟨A6, c6, rfl, hd, hb⟩
  have L6 := Lib.hid ((L5.out.step hb).add hd)
  have Rx_6 := Lib.hid (cells_of Rx_5.out hb)
  have Rr_6 := Lib.hid (cells_of Rr_5.out hb)
  have Rone_6 := Lib.hid (cells_of Rone_5.out hb)
  clear hb hd
  have fx0 := row_c (i := 0) Rx_6.out rfl
  have zx0 := frozen_of_row _ _ 0 _ _ Rx_6.out
  have fx1 := row_c (i := 1) Rx_6.out rfl
  have zx1 := frozen_of_row _ _ 1 _ _ Rx_6.out
  have fx2 := row_c (i := 2) Rx_6.out rfl
  have zx2 := frozen_of_row _ _ 2 _ _ Rx_6.out
  have xx := heap_lt Rx_6.out
  clear fx0 zx0 fx1 zx1 fx2 zx2 xx
  have fx0 := row_c (i := 0) Rx_6.out rfl
  have zx0 := frozen_of_row _ _ 0 _ _ Rx_6.out
  have fx1 := row_c (i := 1) Rx_6.out rfl
  have zx1 := frozen_of_row _ _ 1 _ _ Rx_6.out
  have fx2 := row_c (i := 2) Rx_6.out rfl
  have zx2 := frozen_of_row _ _ 2 _ _ Rx_6.out
  have xx := heap_lt Rx_6.out
  go_wp2_with fail
  refine (odd_any A6 c6 false (k + 1) (y + (z - P)) M E _ (L6.out.get (A := A6) (c := c6) (xs := digs (k + 1)) (by simp)) (Nat.le_trans LK1.out (by omega)) (t32_live HT.out L6.out) ⟨by omega, by omega⟩ HM.out HE.out).mono ?_
  rintro e w7 ⟨A7, c7, rfl, hd, hb⟩
  have L7 := Lib.hid ((L6.out.step hb).add hd)
  clear fx0 zx0 fx1 zx1 fx2 zx2 xx
  have Rx_7 := Lib.hid (cells_of Rx_6.out hb)
  have Rr_7 := Lib.hid (cells_of Rr_6.out hb)
  have Rone_7 := Lib.hid (cells_of Rone_6.out hb)
  clear hb hd
  have fr0 := row_c (i := 0) Rr_7.out rfl
  have zr0 := frozen_of_row _ _ 0 _ _ Rr_7.out
  have fr1 := row_c (i := 1) Rr_7.out rfl
  have zr1 := frozen_of_row _ _ 1 _ _ Rr_7.out
  have fr2 := row_c (i := 2) Rr_7.out rfl
  have zr2 := frozen_of_row _ _ 2 _ _ Rr_7.out
  have xr := heap_lt Rr_7.out
  go_wp2
  refine bodyPost_ret (v := .agg #[.bool (decide (M < 0)), .slice A7 (digs M.natAbs).length c7, .int .i64 E]) (by simp [results, Tryd.results29, go_sem, fr0, fr1, fr2]) rfl ?_
  
  refine ⟨A7, c7, rfl, ?_, ?_⟩
  · exact (fin3 L7.out Rr_7.out noint3 Gr).get (A := A7) (c := c7) (xs := digs M.natAbs) (by simp)
  · exact (fin3 L7.out Rr_7.out noint3 Gr).1

set_option maxHeartbeats 4000000 in
set_option maxRecDepth 100000 in
theorem cut_nla_f (A : Option Addr) (c : Nat) (q : Nat) (y P : Int) (p : Nat) (M E : Int) (w : World) (h : Dg w A c (digs q)) (hl : (digs q).length ≤ 30000) (hT : T32 w) (hP : (p : Int) = P) (p2 : 2 ≤ p) (p4 : p ≤ 400) (hb : p ≤ blen q) (y0 : -900000 ≤ y) (y1 : y ≤ 900000) (hM : nm (sg true (q / 2 ^ (blen q - p) + 1)) = M) (hE : nx (sg true (q / 2 ^ (blen q - p) + 1)) (y + (blen q - p : Nat)) = E) (hlow : decide (q % 2 ^ (blen q - p) ≠ 0) = true):
    Calls Tryd.prog 29 #[.agg #[.bool true, .slice A (digs q).length c, .int .i64 y], .bool false, .int .i64 P, .bool false] w fun e w' => Yr M E w e w' := by
  have q0 : q ≠ 0 := by rintro rfl; rw [blen_zero] at hb; omega
  have b1 : blen q ≤ 960000 := by have := bl_bd (m := (q : Int)) (k := 30000) (by rw [Int.natAbs_natCast]; exact hl); rwa [Int.natAbs_natCast] at this
  obtain ⟨z, hz⟩ : ∃ z : Int, (blen q : Int) = z := ⟨_, rfl⟩
  obtain ⟨d, hd⟩ : ∃ d : Nat, blen q - p = d := ⟨_, rfl⟩
  rw [hd] at hM hE hlow
  have hzd : z - P = (d : Int) := by omega
  have htl := tz_low (q := q) (d := d) q0
  rw [hlow] at htl
  obtain ⟨t, ht⟩ : ∃ t : Int, ((tz q : Nat) : Int) = t := ⟨_, rfl⟩
  have d1 : decide (t < z - P) = true := by rw [← htl, decide_eq_decide]; omega
  have HTZ := Lib.hid ht
  have z0 : 0 ≤ z := by omega
  have z1 : z ≤ 960000 := by omega
  have pp0 : 2 ≤ P := by omega
  have pp1 : P ≤ 400 := by omega
  have zp0 : 0 ≤ z - P := by omega
  have HZ := Lib.hid hz
  have HZD := Lib.hid hzd
  have LX := Lib.hid hl
  have Q0 := Lib.hid q0
  have hlk := digs_len_mono _ _ (Nat.div_le_self q (2 ^ d))
  have hdk : d ≤ 960000 := by omega
  have hlk1 := digs_add_len (q / 2 ^ d) 1
  have l1 : (digs 1).length = 1 := by rw [digs_one (by omega) (by omega)]; rfl
  have LK1 := Lib.hid (show (digs (q / 2 ^ d + 1)).length ≤ 30001 by omega)
  have LK := Lib.hid (show (digs (q / 2 ^ d)).length ≤ 30000 by omega)
  obtain ⟨k, hk⟩ : ∃ k, q / 2 ^ d = k := ⟨_, rfl⟩
  rw [hk] at hM hE LK LK1
  have HK := Lib.hid hk
  have HM := Lib.hid hM
  have HE := Lib.hid (show nx (sg true (k + 1)) (y + (z - P)) = E by rw [hzd]; exact hE)
  have SHR := Lib.hid (fun W (hW : Dg W A c (digs q)) => shr_i (i := z - P) hW (by omega) hzd (by omega))
  rw [hk] at SHR
  have HT := Lib.hid hT
  clear hT
  have L0 := Lib.hid ((live_start w).add h)
  clear h hl hP hb hz hd hzd q0 hM hE hlk hlk1 l1 hk b1 hlow htl ht
  go_enter Tryd.func29, Tryd.ntmps29
  go_wp2_with fail
  obtain ⟨v1, hW⟩ : ∃ W : World, W = ((w.alloc (.cells #[.bool true, .slice A (digs q).length c, .int .i64 y] 26)).alloc (.cells #[.bool false, .slice none 0 0, .int .i64 0] 26)) := ⟨_, rfl⟩
  rw [← hW]
  have hb : Below w.heap.size w v1 := by rw [hW]; exact (((Below.refl _ _).alloc (by simp <;> omega) _).alloc (by simp <;> omega) _)
  have L1 := Lib.hid (L0.out.step hb)
  have Rx_1 := Lib.hid (show v1.heap[w.heap.size]? = some (.cells #[.bool true, .slice A (digs q).length c, .int .i64 y] 26 (0, 0)) by rw [hW]; have := heap_alloc_new w (.cells #[.bool true, .slice A (digs q).length c, .int .i64 y] 26); rw [heap_alloc_old _ _ (by simp <;> omega)]; simpa using this)
  have Gx : w.heap.size ≤ w.heap.size := by have := L0.out.1.size; omega
  have Rr_1 := Lib.hid (show v1.heap[w.heap.size + 1]? = some (.cells #[.bool false, .slice none 0 0, .int .i64 0] 26 (0, 0)) by rw [hW]; have := heap_alloc_new (w.alloc (.cells #[.bool true, .slice A (digs q).length c, .int .i64 y] 26)) (.cells #[.bool false, .slice none 0 0, .int .i64 0] 26); simpa using this)
  have Gr : w.heap.size ≤ w.heap.size + 1 := by have := L0.out.1.size; omega
  have Nxr : w.heap.size < w.heap.size + 1 := by omega
  clear hW hb
  refine (bits_b (L1.out.get (A := A) (c := c) (xs := digs q) (by simp)) (Nat.le_trans LX.out (by omega)) HZ.out).mono ?_
  rintro e w2 ⟨rfl, rfl⟩
  have fx0 := row_c (i := 0) Rx_1.out rfl
  have zx0 := frozen_of_row _ _ 0 _ _ Rx_1.out
  have fx1 := row_c (i := 1) Rx_1.out rfl
  have zx1 := frozen_of_row _ _ 1 _ _ Rx_1.out
  have fx2 := row_c (i := 2) Rx_1.out rfl
  have zx2 := frozen_of_row _ _ 2 _ _ Rx_1.out
  have xx := heap_lt Rx_1.out
  go_wp2_with fail
  refine (SHR.out _ (L1.out.get (A := A) (c := c) (xs := digs q) (by simp))).mono ?_
  rintro e w3 ⟨A3, c3, rfl, hd, hb⟩
  have L3 := Lib.hid ((L1.out.step hb).add hd)
  clear fx0 zx0 fx1 zx1 fx2 zx2 xx
  have Rx_3 := Lib.hid (cells_of Rx_1.out hb)
  have Rr_3 := Lib.hid (cells_of Rr_1.out hb)
  clear hb hd
  have fx0 := row_c (i := 0) Rx_3.out rfl
  have zx0 := frozen_of_row _ _ 0 _ _ Rx_3.out
  have fx1 := row_c (i := 1) Rx_3.out rfl
  have zx1 := frozen_of_row _ _ 1 _ _ Rx_3.out
  have fx2 := row_c (i := 2) Rx_3.out rfl
  have zx2 := frozen_of_row _ _ 2 _ _ Rx_3.out
  have xx := heap_lt Rx_3.out
  go_wp2_with fail
  refine (zeros_i (L3.out.get (A := A) (c := c) (xs := digs q) (by simp)) (Nat.le_trans LX.out (by omega)) Q0.out (t32_live HT.out L3.out) HTZ.out).mono ?_
  rintro e w4 ⟨rfl, rfl⟩
  clear fx0 zx0 fx1 zx1 fx2 zx2 xx
  have fx0 := row_c (i := 0) Rx_3.out rfl
  have zx0 := frozen_of_row _ _ 0 _ _ Rx_3.out
  have fx1 := row_c (i := 1) Rx_3.out rfl
  have zx1 := frozen_of_row _ _ 1 _ _ Rx_3.out
  have fx2 := row_c (i := 2) Rx_3.out rfl
  have zx2 := frozen_of_row _ _ 2 _ _ Rx_3.out
  have xx := heap_lt Rx_3.out
  go_wp2_with fail
  obtain ⟨w5, hW⟩ : ∃ W : World, W = (w3.alloc (.cells #[.int .u32 1] 41)) := ⟨_, rfl⟩
  rw [← hW]
  have hb : Below w3.heap.size w3 w5 := by rw [hW]; exact ((Below.refl _ _).alloc (by simp <;> omega) _)
  have L5 := Lib.hid (L3.out.step hb)
  have Rx_5 := Lib.hid (cells_of Rx_3.out hb)
  have Rr_5 := Lib.hid (cells_of Rr_3.out hb)
  have Rone_5 := Lib.hid (show w5.heap[w3.heap.size]? = some (.cells #[.int .u32 1] 41 (0, 0)) by rw [hW]; have := heap_alloc_new w3 (.cells #[.int .u32 1] 41); simpa using this)
  have Gone : w.heap.size ≤ w3.heap.size := by have := L3.out.1.size; omega
  have Nxone : w.heap.size < w3.heap.size := by have := heap_lt Rx_3.out; omega
  have Nrone : w.heap.size + 1 < w3.heap.size := by have := heap_lt Rr_3.out; omega
  clear hW hb
  clear fx0 zx0 fx1 zx1 fx2 zx2 xx
  refine (nadd1 (L5.out.get (A := A3) (c := c3) (xs := digs k) (by simp)) (Nat.le_trans LK.out (by omega)) Rone_5.out).mono ?_
  rintro e w6 ⟨A6, c6, rfl, hd, hb⟩
  have L6 := Lib.hid ((L5.out.step hb).add hd)
  have Rx_6 := Lib.hid (cells_of Rx_5.out hb)
  have Rr_6 := Lib.hid (cells_of Rr_5.out hb)
  have Rone_6 := Lib.hid (cells_of Rone_5.out hb)
  clear hb hd
  have fx0 := row_c (i := 0) Rx_6.out rfl
  have zx0 := frozen_of_row _ _ 0 _ _ Rx_6.out
  have fx1 := row_c (i := 1) Rx_6.out rfl
  have zx1 := frozen_of_row _ _ 1 _ _ Rx_6.out
  have fx2 := row_c (i := 2) Rx_6.out rfl
  have zx2 := frozen_of_row _ _ 2 _ _ Rx_6.out
  have xx := heap_lt Rx_6.out
  clear fx0 zx0 fx1 zx1 fx2 zx2 xx
  have fx0 := row_c (i := 0) Rx_6.out rfl
  have zx0 := frozen_of_row _ _ 0 _ _ Rx_6.out
  have fx1 := row_c (i := 1) Rx_6.out rfl
  have zx1 := frozen_of_row _ _ 1 _ _ Rx_6.out
  have fx2 := row_c (i := 2) Rx_6.out rfl
  have zx2 := frozen_of_row _ _ 2 _ _ Rx_6.out
  have xx := heap_lt Rx_6.out
  go_wp2_with fail
  refine (odd_any A6 c6 true (k + 1) (y + (z - P)) M E _ (L6.out.get (A := A6) (c := c6) (xs := digs (k + 1)) (by simp)) (Nat.le_trans LK1.out (by omega)) (t32_live HT.out L6.out) ⟨by omega, by omega⟩ HM.out HE.out).mono ?_
  rintro e w7 ⟨A7, c7, rfl, hd, hb⟩
  have L7 := Lib.hid ((L6.out.step hb).add hd)
  clear fx0 zx0 fx1 zx1 fx2 zx2 xx
  have Rx_7 := Lib.hid (cells_of Rx_6.out hb)
  have Rr_7 := Lib.hid (cells_of Rr_6.out hb)
  have Rone_7 := Lib.hid (cells_of Rone_6.out hb)
  clear hb hd
  have fr0 := row_c (i := 0) Rr_7.out rfl
  have zr0 := frozen_of_row _ _ 0 _ _ Rr_7.out
  have fr1 := row_c (i := 1) Rr_7.out rfl
  have zr1 := frozen_of_row _ _ 1 _ _ Rr_7.out
  have fr2 := row_c (i := 2) Rr_7.out rfl
  have zr2 := frozen_of_row _ _ 2 _ _ Rr_7.out
  have xr := heap_lt Rr_7.out
  go_wp2
  refine bodyPost_ret (v := .agg #[.bool (decide (M < 0)), .slice A7 (digs M.natAbs).length c7, .int .i64 E]) (by simp [results, Tryd.results29, go_sem, fr0, fr1, fr2]) rfl ?_
  
  refine ⟨A7, c7, rfl, ?_, ?_⟩
  · exact (fin3 L7.out Rr_7.out noint3 Gr).get (A := A7) (c := c7) (xs := digs M.natAbs) (by simp)
  · exact (fin3 L7.out Rr_7.out noint3 Gr).1
end Go.Proofs.YtcfoepogbfngmaaDoor
end

section
/-
  dyad.cut, whole.
-/
namespace Go.Proofs.YtcfoepogbfngmaaDoor
open Go.RowKit
set_option linter.unusedSimpArgs false
set_option linter.unusedVariables false
set_option maxHeartbeats 4000000 in
set_option maxRecDepth 100000 in
theorem cut_nlf_t (A : Option Addr) (c : Nat) (q : Nat) (y P : Int) (p : Nat) (M E : Int) (w : World) (h : Dg w A c (digs q)) (hl : (digs q).length ≤ 30000) (hT : T32 w) (hP : (p : Int) = P) (p2 : 2 ≤ p) (p4 : p ≤ 400) (hb : p ≤ blen q) (y0 : -900000 ≤ y) (y1 : y ≤ 900000) (hM : nm (sg true (q / 2 ^ (blen q - p))) = M) (hE : nx (sg true (q / 2 ^ (blen q - p))) (y + (blen q - p : Nat)) = E) (hlow : decide (q % 2 ^ (blen q - p) ≠ 0) = true):
    Calls Tryd.prog 29 #[.agg #[.bool true, .slice A (digs q).length c, .int .i64 y], .bool false, .int .i64 P, .bool true] w fun e w' => Yr M E w e w' := by
  have q0 : q ≠ 0 := by rintro rfl; rw [blen_zero] at hb; omega
  have b1 : blen q ≤ 960000 := by have := bl_bd (m := (q : Int)) (k := 30000) (by rw [Int.natAbs_natCast]; exact hl); rwa [Int.natAbs_natCast] at this
  obtain ⟨z, hz⟩ : ∃ z : Int, (blen q : Int) = z := ⟨_, rfl⟩
  obtain ⟨d, hd⟩ : ∃ d : Nat, blen q - p = d := ⟨_, rfl⟩
  rw [hd] at hM hE hlow
  have hzd : z - P = (d : Int) := by omega
  have htl := tz_low (q := q) (d := d) q0
  rw [hlow] at htl
  obtain ⟨t, ht⟩ : ∃ t : Int, ((tz q : Nat) : Int) = t := ⟨_, rfl⟩
  have d1 : decide (t < z - P) = true := by rw [← htl, decide_eq_decide]; omega
  have HTZ := Lib.hid ht
  have z0 : 0 ≤ z := by omega
  have z1 : z ≤ 960000 := by omega
  have pp0 : 2 ≤ P := by omega
  have pp1 : P ≤ 400 := by omega
  have zp0 : 0 ≤ z - P := by omega
  have HZ := Lib.hid hz
  have HZD := Lib.hid hzd
  have LX := Lib.hid hl
  have Q0 := Lib.hid q0
  have hlk := digs_len_mono _ _ (Nat.div_le_self q (2 ^ d))
  have hdk : d ≤ 960000 := by omega
  have hlk1 := digs_add_len (q / 2 ^ d) 1
  have l1 : (digs 1).length = 1 := by rw [digs_one (by omega) (by omega)]; rfl
  have LK1 := Lib.hid (show (digs (q / 2 ^ d + 1)).length ≤ 30001 by omega)
  have LK := Lib.hid (show (digs (q / 2 ^ d)).length ≤ 30000 by omega)
  obtain ⟨k, hk⟩ : ∃ k, q / 2 ^ d = k := ⟨_, rfl⟩
  rw [hk] at hM hE LK LK1
  have HK := Lib.hid hk
  have HM := Lib.hid hM
  have HE := Lib.hid (show nx (sg true (k)) (y + (z - P)) = E by rw [hzd]; exact hE)
  have SHR := Lib.hid (fun W (hW : Dg W A c (digs q)) => shr_i (i := z - P) hW (by omega) hzd (by omega))
  rw [hk] at SHR
  have HT := Lib.hid hT
  clear hT
  have L0 := Lib.hid ((live_start w).add h)
  clear h hl hP hb hz hd hzd q0 hM hE hlk hlk1 l1 hk b1 hlow htl ht
  go_enter Tryd.func29, Tryd.ntmps29
  go_wp2_with fail
  obtain ⟨v1, hW⟩ : ∃ W : World, W = ((w.alloc (.cells #[.bool true, .slice A (digs q).length c, .int .i64 y] 26)).alloc (.cells #[.bool false, .slice none 0 0, .int .i64 0] 26)) := ⟨_, rfl⟩
  rw [← hW]
  have hb : Below w.heap.size w v1 := by rw [hW]; exact (((Below.refl _ _).alloc (by simp <;> omega) _).alloc (by simp <;> omega) _)
  have L1 := Lib.hid (L0.out.step hb)
  have Rx_1 := Lib.hid (show v1.heap[w.heap.size]? = some (.cells #[.bool true, .slice A (digs q).length c, .int .i64 y] 26 (0, 0)) by rw [hW]; have := heap_alloc_new w (.cells #[.bool true, .slice A (digs q).length c, .int .i64 y] 26); rw [heap_alloc_old _ _ (by simp <;> omega)]; simpa using this)
  have Gx : w.heap.size ≤ w.heap.size := by have := L0.out.1.size; omega
  have Rr_1 := Lib.hid (show v1.heap[w.heap.size + 1]? = some (.cells #[.bool false, .slice none 0 0, .int .i64 0] 26 (0, 0)) by rw [hW]; have := heap_alloc_new (w.alloc (.cells #[.bool true, .slice A (digs q).length c, .int .i64 y] 26)) (.cells #[.bool false, .slice none 0 0, .int .i64 0] 26); simpa using this)
  have Gr : w.heap.size ≤ w.heap.size + 1 := by have := L0.out.1.size; omega
  have Nxr : w.heap.size < w.heap.size + 1 := by omega
  clear hW hb
  refine (bits_b (L1.out.get (A := A) (c := c) (xs := digs q) (by simp)) (Nat.le_trans LX.out (by omega)) HZ.out).mono ?_
  rintro e w2 ⟨rfl, rfl⟩
  have fx0 := row_c (i := 0) Rx_1.out rfl
  have zx0 := frozen_of_row _ _ 0 _ _ Rx_1.out
  have fx1 := row_c (i := 1) Rx_1.out rfl
  have zx1 := frozen_of_row _ _ 1 _ _ Rx_1.out
  have fx2 := row_c (i := 2) Rx_1.out rfl
  have zx2 := frozen_of_row _ _ 2 _ _ Rx_1.out
  have xx := heap_lt Rx_1.out
  go_wp2_with fail
  refine (SHR.out _ (L1.out.get (A := A) (c := c) (xs := digs q) (by simp))).mono ?_
  rintro e w3 ⟨A3, c3, rfl, hd, hb⟩
  have L3 := Lib.hid ((L1.out.step hb).add hd)
  clear fx0 zx0 fx1 zx1 fx2 zx2 xx
  have Rx_3 := Lib.hid (cells_of Rx_1.out hb)
  have Rr_3 := Lib.hid (cells_of Rr_1.out hb)
  clear hb hd
  have fx0 := row_c (i := 0) Rx_3.out rfl
  have zx0 := frozen_of_row _ _ 0 _ _ Rx_3.out
  have fx1 := row_c (i := 1) Rx_3.out rfl
  have zx1 := frozen_of_row _ _ 1 _ _ Rx_3.out
  have fx2 := row_c (i := 2) Rx_3.out rfl
  have zx2 := frozen_of_row _ _ 2 _ _ Rx_3.out
  have xx := heap_lt Rx_3.out
  go_wp2_with fail
  refine (zeros_i (L3.out.get (A := A) (c := c) (xs := digs q) (by simp)) (Nat.le_trans LX.out (by omega)) Q0.out (t32_live HT.out L3.out) HTZ.out).mono ?_
  rintro e w4 ⟨rfl, rfl⟩
  clear fx0 zx0 fx1 zx1 fx2 zx2 xx
  have fx0 := row_c (i := 0) Rx_3.out rfl
  have zx0 := frozen_of_row _ _ 0 _ _ Rx_3.out
  have fx1 := row_c (i := 1) Rx_3.out rfl
  have zx1 := frozen_of_row _ _ 1 _ _ Rx_3.out
  have fx2 := row_c (i := 2) Rx_3.out rfl
  have zx2 := frozen_of_row _ _ 2 _ _ Rx_3.out
  have xx := heap_lt Rx_3.out
  clear fx0 zx0 fx1 zx1 fx2 zx2 xx
  have fx0 := row_c (i := 0) Rx_3.out rfl
  have zx0 := frozen_of_row _ _ 0 _ _ Rx_3.out
  have fx1 := row_c (i := 1) Rx_3.out rfl
  have zx1 := frozen_of_row _ _ 1 _ _ Rx_3.out
  have fx2 := row_c (i := 2) Rx_3.out rfl
  have zx2 := frozen_of_row _ _ 2 _ _ Rx_3.out
  have xx := heap_lt Rx_3.out
  go_wp2_with fail
  refine (odd_any A3 c3 true k (y + (z - P)) M E _ (L3.out.get (A := A3) (c := c3) (xs := digs k) (by simp)) (Nat.le_trans LK.out (by omega)) (t32_live HT.out L3.out) ⟨by omega, by omega⟩ HM.out HE.out).mono ?_
  rintro e w5 ⟨A5, c5, rfl, hd, hb⟩
  have L5 := Lib.hid ((L3.out.step hb).add hd)
  clear fx0 zx0 fx1 zx1 fx2 zx2 xx
  have Rx_5 := Lib.hid (cells_of Rx_3.out hb)
  have Rr_5 := Lib.hid (cells_of Rr_3.out hb)
  clear hb hd
  have fr0 := row_c (i := 0) Rr_5.out rfl
  have zr0 := frozen_of_row _ _ 0 _ _ Rr_5.out
  have fr1 := row_c (i := 1) Rr_5.out rfl
  have zr1 := frozen_of_row _ _ 1 _ _ Rr_5.out
  have fr2 := row_c (i := 2) Rr_5.out rfl
  have zr2 := frozen_of_row _ _ 2 _ _ Rr_5.out
  have xr := heap_lt Rr_5.out
  go_wp2
  refine bodyPost_ret (v := .agg #[.bool (decide (M < 0)), .slice A5 (digs M.natAbs).length c5, .int .i64 E]) (by simp [results, Tryd.results29, go_sem, fr0, fr1, fr2]) rfl ?_
  
  refine ⟨A5, c5, rfl, ?_, ?_⟩
  · exact (fin3 L5.out Rr_5.out noint3 Gr).get (A := A5) (c := c5) (xs := digs M.natAbs) (by simp)
  · exact (fin3 L5.out Rr_5.out noint3 Gr).1

set_option maxHeartbeats 4000000 in
set_option maxRecDepth 100000 in
theorem cut_nlf_f (A : Option Addr) (c : Nat) (q : Nat) (y P : Int) (p : Nat) (M E : Int) (w : World) (h : Dg w A c (digs q)) (hl : (digs q).length ≤ 30000) (hT : T32 w) (hP : (p : Int) = P) (p2 : 2 ≤ p) (p4 : p ≤ 400) (hb : p ≤ blen q) (y0 : -900000 ≤ y) (y1 : y ≤ 900000) (hM : nm (sg false (q / 2 ^ (blen q - p))) = M) (hE : nx (sg false (q / 2 ^ (blen q - p))) (y + (blen q - p : Nat)) = E) (hlow : decide (q % 2 ^ (blen q - p) ≠ 0) = true):
    Calls Tryd.prog 29 #[.agg #[.bool false, .slice A (digs q).length c, .int .i64 y], .bool false, .int .i64 P, .bool false] w fun e w' => Yr M E w e w' := by
  have q0 : q ≠ 0 := by rintro rfl; rw [blen_zero] at hb; omega
  have b1 : blen q ≤ 960000 := by have := bl_bd (m := (q : Int)) (k := 30000) (by rw [Int.natAbs_natCast]; exact hl); rwa [Int.natAbs_natCast] at this
  obtain ⟨z, hz⟩ : ∃ z : Int, (blen q : Int) = z := ⟨_, rfl⟩
  obtain ⟨d, hd⟩ : ∃ d : Nat, blen q - p = d := ⟨_, rfl⟩
  rw [hd] at hM hE hlow
  have hzd : z - P = (d : Int) := by omega
  have htl := tz_low (q := q) (d := d) q0
  rw [hlow] at htl
  obtain ⟨t, ht⟩ : ∃ t : Int, ((tz q : Nat) : Int) = t := ⟨_, rfl⟩
  have d1 : decide (t < z - P) = true := by rw [← htl, decide_eq_decide]; omega
  have HTZ := Lib.hid ht
  have z0 : 0 ≤ z := by omega
  have z1 : z ≤ 960000 := by omega
  have pp0 : 2 ≤ P := by omega
  have pp1 : P ≤ 400 := by omega
  have zp0 : 0 ≤ z - P := by omega
  have HZ := Lib.hid hz
  have HZD := Lib.hid hzd
  have LX := Lib.hid hl
  have Q0 := Lib.hid q0
  have hlk := digs_len_mono _ _ (Nat.div_le_self q (2 ^ d))
  have hdk : d ≤ 960000 := by omega
  have hlk1 := digs_add_len (q / 2 ^ d) 1
  have l1 : (digs 1).length = 1 := by rw [digs_one (by omega) (by omega)]; rfl
  have LK1 := Lib.hid (show (digs (q / 2 ^ d + 1)).length ≤ 30001 by omega)
  have LK := Lib.hid (show (digs (q / 2 ^ d)).length ≤ 30000 by omega)
  obtain ⟨k, hk⟩ : ∃ k, q / 2 ^ d = k := ⟨_, rfl⟩
  rw [hk] at hM hE LK LK1
  have HK := Lib.hid hk
  have HM := Lib.hid hM
  have HE := Lib.hid (show nx (sg false (k)) (y + (z - P)) = E by rw [hzd]; exact hE)
  have SHR := Lib.hid (fun W (hW : Dg W A c (digs q)) => shr_i (i := z - P) hW (by omega) hzd (by omega))
  rw [hk] at SHR
  have HT := Lib.hid hT
  clear hT
  have L0 := Lib.hid ((live_start w).add h)
  clear h hl hP hb hz hd hzd q0 hM hE hlk hlk1 l1 hk b1 hlow htl ht
  go_enter Tryd.func29, Tryd.ntmps29
  go_wp2_with fail
  obtain ⟨v1, hW⟩ : ∃ W : World, W = ((w.alloc (.cells #[.bool false, .slice A (digs q).length c, .int .i64 y] 26)).alloc (.cells #[.bool false, .slice none 0 0, .int .i64 0] 26)) := ⟨_, rfl⟩
  rw [← hW]
  have hb : Below w.heap.size w v1 := by rw [hW]; exact (((Below.refl _ _).alloc (by simp <;> omega) _).alloc (by simp <;> omega) _)
  have L1 := Lib.hid (L0.out.step hb)
  have Rx_1 := Lib.hid (show v1.heap[w.heap.size]? = some (.cells #[.bool false, .slice A (digs q).length c, .int .i64 y] 26 (0, 0)) by rw [hW]; have := heap_alloc_new w (.cells #[.bool false, .slice A (digs q).length c, .int .i64 y] 26); rw [heap_alloc_old _ _ (by simp <;> omega)]; simpa using this)
  have Gx : w.heap.size ≤ w.heap.size := by have := L0.out.1.size; omega
  have Rr_1 := Lib.hid (show v1.heap[w.heap.size + 1]? = some (.cells #[.bool false, .slice none 0 0, .int .i64 0] 26 (0, 0)) by rw [hW]; have := heap_alloc_new (w.alloc (.cells #[.bool false, .slice A (digs q).length c, .int .i64 y] 26)) (.cells #[.bool false, .slice none 0 0, .int .i64 0] 26); simpa using this)
  have Gr : w.heap.size ≤ w.heap.size + 1 := by have := L0.out.1.size; omega
  have Nxr : w.heap.size < w.heap.size + 1 := by omega
  clear hW hb
  refine (bits_b (L1.out.get (A := A) (c := c) (xs := digs q) (by simp)) (Nat.le_trans LX.out (by omega)) HZ.out).mono ?_
  rintro e w2 ⟨rfl, rfl⟩
  have fx0 := row_c (i := 0) Rx_1.out rfl
  have zx0 := frozen_of_row _ _ 0 _ _ Rx_1.out
  have fx1 := row_c (i := 1) Rx_1.out rfl
  have zx1 := frozen_of_row _ _ 1 _ _ Rx_1.out
  have fx2 := row_c (i := 2) Rx_1.out rfl
  have zx2 := frozen_of_row _ _ 2 _ _ Rx_1.out
  have xx := heap_lt Rx_1.out
  go_wp2_with fail
  refine (SHR.out _ (L1.out.get (A := A) (c := c) (xs := digs q) (by simp))).mono ?_
  rintro e w3 ⟨A3, c3, rfl, hd, hb⟩
  have L3 := Lib.hid ((L1.out.step hb).add hd)
  clear fx0 zx0 fx1 zx1 fx2 zx2 xx
  have Rx_3 := Lib.hid (cells_of Rx_1.out hb)
  have Rr_3 := Lib.hid (cells_of Rr_1.out hb)
  clear hb hd
  have fx0 := row_c (i := 0) Rx_3.out rfl
  have zx0 := frozen_of_row _ _ 0 _ _ Rx_3.out
  have fx1 := row_c (i := 1) Rx_3.out rfl
  have zx1 := frozen_of_row _ _ 1 _ _ Rx_3.out
  have fx2 := row_c (i := 2) Rx_3.out rfl
  have zx2 := frozen_of_row _ _ 2 _ _ Rx_3.out
  have xx := heap_lt Rx_3.out
  go_wp2_with fail
  refine (zeros_i (L3.out.get (A := A) (c := c) (xs := digs q) (by simp)) (Nat.le_trans LX.out (by omega)) Q0.out (t32_live HT.out L3.out) HTZ.out).mono ?_
  rintro e w4 ⟨rfl, rfl⟩
  clear fx0 zx0 fx1 zx1 fx2 zx2 xx
  have fx0 := row_c (i := 0) Rx_3.out rfl
  have zx0 := frozen_of_row _ _ 0 _ _ Rx_3.out
  have fx1 := row_c (i := 1) Rx_3.out rfl
  have zx1 := frozen_of_row _ _ 1 _ _ Rx_3.out
  have fx2 := row_c (i := 2) Rx_3.out rfl
  have zx2 := frozen_of_row _ _ 2 _ _ Rx_3.out
  have xx := heap_lt Rx_3.out
  clear fx0 zx0 fx1 zx1 fx2 zx2 xx
  have fx0 := row_c (i := 0) Rx_3.out rfl
  have zx0 := frozen_of_row _ _ 0 _ _ Rx_3.out
  have fx1 := row_c (i := 1) Rx_3.out rfl
  have zx1 := frozen_of_row _ _ 1 _ _ Rx_3.out
  have fx2 := row_c (i := 2) Rx_3.out rfl
  have zx2 := frozen_of_row _ _ 2 _ _ Rx_3.out
  have xx := heap_lt Rx_3.out
  go_wp2_with fail
  refine (odd_any A3 c3 false k (y + (z - P)) M E _ (L3.out.get (A := A3) (c := c3) (xs := digs k) (by simp)) (Nat.le_trans LK.out (by omega)) (t32_live HT.out L3.out) ⟨by omega, by omega⟩ HM.out HE.out).mono ?_
  rintro e w5 ⟨A5, c5, rfl, hd, hb⟩
  have L5 := Lib.hid ((L3.out.step hb).add hd)
  clear fx0 zx0 fx1 zx1 fx2 zx2 xx
  have Rx_5 := Lib.hid (cells_of Rx_3.out hb)
  have Rr_5 := Lib.hid (cells_of Rr_3.out hb)
  clear hb hd
  have fr0 := row_c (i := 0) Rr_5.out rfl
  have zr0 := frozen_of_row _ _ 0 _ _ Rr_5.out
  have fr1 := row_c (i := 1) Rr_5.out rfl
  have zr1 := frozen_of_row _ _ 1 _ _ Rr_5.out
  have fr2 := row_c (i := 2) Rr_5.out rfl
  have zr2 := frozen_of_row _ _ 2 _ _ Rr_5.out
  have xr := heap_lt Rr_5.out
  go_wp2
  refine bodyPost_ret (v := .agg #[.bool (decide (M < 0)), .slice A5 (digs M.natAbs).length c5, .int .i64 E]) (by simp [results, Tryd.results29, go_sem, fr0, fr1, fr2]) rfl ?_
  
  refine ⟨A5, c5, rfl, ?_, ?_⟩
  · exact (fin3 L5.out Rr_5.out noint3 Gr).get (A := A5) (c := c5) (xs := digs M.natAbs) (by simp)
  · exact (fin3 L5.out Rr_5.out noint3 Gr).1

set_option maxHeartbeats 4000000 in
set_option maxRecDepth 100000 in
theorem cut_mla_t (A : Option Addr) (c : Nat) (q : Nat) (y P : Int) (p : Nat) (M E : Int) (w : World) (h : Dg w A c (digs q)) (hl : (digs q).length ≤ 30000) (hT : T32 w) (hP : (p : Int) = P) (p2 : 2 ≤ p) (p4 : p ≤ 400) (hb : p ≤ blen q) (y0 : -900000 ≤ y) (y1 : y ≤ 900000) (hM : nm (sg false (q / 2 ^ (blen q - p) + 1)) = M) (hE : nx (sg false (q / 2 ^ (blen q - p) + 1)) (y + (blen q - p : Nat)) = E):
    Calls Tryd.prog 29 #[.agg #[.bool false, .slice A (digs q).length c, .int .i64 y], .bool true, .int .i64 P, .bool true] w fun e w' => Yr M E w e w' := by
  have q0 : q ≠ 0 := by rintro rfl; rw [blen_zero] at hb; omega
  have b1 : blen q ≤ 960000 := by have := bl_bd (m := (q : Int)) (k := 30000) (by rw [Int.natAbs_natCast]; exact hl); rwa [Int.natAbs_natCast] at this
  obtain ⟨z, hz⟩ : ∃ z : Int, (blen q : Int) = z := ⟨_, rfl⟩
  obtain ⟨d, hd⟩ : ∃ d : Nat, blen q - p = d := ⟨_, rfl⟩
  rw [hd] at hM hE
  have hzd : z - P = (d : Int) := by omega
  have z0 : 0 ≤ z := by omega
  have z1 : z ≤ 960000 := by omega
  have pp0 : 2 ≤ P := by omega
  have pp1 : P ≤ 400 := by omega
  have zp0 : 0 ≤ z - P := by omega
  have HZ := Lib.hid hz
  have HZD := Lib.hid hzd
  have LX := Lib.hid hl
  have Q0 := Lib.hid q0
  have hlk := digs_len_mono _ _ (Nat.div_le_self q (2 ^ d))
  have hdk : d ≤ 960000 := by omega
  have hlk1 := digs_add_len (q / 2 ^ d) 1
  have l1 : (digs 1).length = 1 := by rw [digs_one (by omega) (by omega)]; rfl
  have LK1 := Lib.hid (show (digs (q / 2 ^ d + 1)).length ≤ 30001 by omega)
  have LK := Lib.hid (show (digs (q / 2 ^ d)).length ≤ 30000 by omega)
  obtain ⟨k, hk⟩ : ∃ k, q / 2 ^ d = k := ⟨_, rfl⟩
  rw [hk] at hM hE LK LK1
  have HK := Lib.hid hk
  have HM := Lib.hid hM
  have HE := Lib.hid (show nx (sg false (k + 1)) (y + (z - P)) = E by rw [hzd]; exact hE)
  have SHR := Lib.hid (fun W (hW : Dg W A c (digs q)) => shr_i (i := z - P) hW (by omega) hzd (by omega))
  rw [hk] at SHR
  have HT := Lib.hid hT
  clear hT
  have L0 := Lib.hid ((live_start w).add h)
  clear h hl hP hb hz hd hzd q0 hM hE hlk hlk1 l1 hk b1
  go_enter Tryd.func29, Tryd.ntmps29
  go_wp2_with fail
  obtain ⟨v1, hW⟩ : ∃ W : World, W = ((w.alloc (.cells #[.bool false, .slice A (digs q).length c, .int .i64 y] 26)).alloc (.cells #[.bool false, .slice none 0 0, .int .i64 0] 26)) := ⟨_, rfl⟩
  rw [← hW]
  have hb : Below w.heap.size w v1 := by rw [hW]; exact (((Below.refl _ _).alloc (by simp <;> omega) _).alloc (by simp <;> omega) _)
  have L1 := Lib.hid (L0.out.step hb)
  have Rx_1 := Lib.hid (show v1.heap[w.heap.size]? = some (.cells #[.bool false, .slice A (digs q).length c, .int .i64 y] 26 (0, 0)) by rw [hW]; have := heap_alloc_new w (.cells #[.bool false, .slice A (digs q).length c, .int .i64 y] 26); rw [heap_alloc_old _ _ (by simp <;> omega)]; simpa using this)
  have Gx : w.heap.size ≤ w.heap.size := by have := L0.out.1.size; omega
  have Rr_1 := Lib.hid (show v1.heap[w.heap.size + 1]? = some (.cells #[.bool false, .slice none 0 0, .int .i64 0] 26 (0, 0)) by rw [hW]; have := heap_alloc_new (w.alloc (.cells #[.bool false, .slice A (digs q).length c, .int .i64 y] 26)) (.cells #[.bool false, .slice none 0 0, .int .i64 0] 26); simpa using this)
  have Gr : w.heap.size ≤ w.heap.size + 1 := by have := L0.out.1.size; omega
  have Nxr : w.heap.size < w.heap.size + 1 := by omega
  clear hW hb
  refine (bits_b (L1.out.get (A := A) (c := c) (xs := digs q) (by simp)) (Nat.le_trans LX.out (by omega)) HZ.out).mono ?_
  rintro e w2 ⟨rfl, rfl⟩
  have fx0 := row_c (i := 0) Rx_1.out rfl
  have zx0 := frozen_of_row _ _ 0 _ _ Rx_1.out
  have fx1 := row_c (i := 1) Rx_1.out rfl
  have zx1 := frozen_of_row _ _ 1 _ _ Rx_1.out
  have fx2 := row_c (i := 2) Rx_1.out rfl
  have zx2 := frozen_of_row _ _ 2 _ _ Rx_1.out
  have xx := heap_lt Rx_1.out
  go_wp2_with fail
  refine (SHR.out _ (L1.out.get (A := A) (c := c) (xs := digs q) (by simp))).mono ?_
  rintro e w3 ⟨A3, c3, rfl, hd, hb⟩
  have L3 := Lib.hid ((L1.out.step hb).add hd)
  clear fx0 zx0 fx1 zx1 fx2 zx2 xx
  have Rx_3 := Lib.hid (cells_of Rx_1.out hb)
  have Rr_3 := Lib.hid (cells_of Rr_1.out hb)
  clear hb hd
  have fx0 := row_c (i := 0) Rx_3.out rfl
  have zx0 := frozen_of_row _ _ 0 _ _ Rx_3.out
  have fx1 := row_c (i := 1) Rx_3.out rfl
  have zx1 := frozen_of_row _ _ 1 _ _ Rx_3.out
  have fx2 := row_c (i := 2) Rx_3.out rfl
  have zx2 := frozen_of_row _ _ 2 _ _ Rx_3.out
  have xx := heap_lt Rx_3.out
  go_wp2_with fail
  obtain ⟨w4, hW⟩ : ∃ W : World, W = (w3.alloc (.cells #[.int .u32 1] 41)) := ⟨_, rfl⟩
  rw [← hW]
  have hb : Below w3.heap.size w3 w4 := by rw [hW]; exact ((Below.refl _ _).alloc (by simp <;> omega) _)
  have L4 := Lib.hid (L3.out.step hb)
  have Rx_4 := Lib.hid (cells_of Rx_3.out hb)
  have Rr_4 := Lib.hid (cells_of Rr_3.out hb)
  have Rone_4 := Lib.hid (show w4.heap[w3.heap.size]? = some (.cells #[.int .u32 1] 41 (0, 0)) by rw [hW]; have := heap_alloc_new w3 (.cells #[.int .u32 1] 41); simpa using this)
  have Gone : w.heap.size ≤ w3.heap.size := by have := L3.out.1.size; omega
  have Nxone : w.heap.size < w3.heap.size := by have := heap_lt Rx_3.out; omega
  have Nrone : w.heap.size + 1 < w3.heap.size := by have := heap_lt Rr_3.out; omega
  clear hW hb
  clear fx0 zx0 fx1 zx1 fx2 zx2 xx
  refine (nadd1 (L4.out.get (A := A3) (c := c3) (xs := digs k) (by simp)) (Nat.le_trans LK.out (by omega)) Rone_4.out).mono ?_
  rintro e w5 ⟨A5, c5, rfl, hd, hb⟩
  have L5 := Lib.hid ((L4.out.step hb).add hd)
  have Rx_5 := Lib.hid (cells_of Rx_4.out hb)
  have Rr_5 := Lib.hid (cells_of Rr_4.out hb)
  have Rone_5 := Lib.hid (cells_of Rone_4.out hb)
  clear hb hd
  have fx0 := row_c (i := 0) Rx_5.out rfl
  have zx0 := frozen_of_row _ _ 0 _ _ Rx_5.out
  have fx1 := row_c (i := 1) Rx_5.out rfl
  have zx1 := frozen_of_row _ _ 1 _ _ Rx_5.out
  have fx2 := row_c (i := 2) Rx_5.out rfl
  have zx2 := frozen_of_row _ _ 2 _ _ Rx_5.out
  have xx := heap_lt Rx_5.out
  clear fx0 zx0 fx1 zx1 fx2 zx2 xx
  have fx0 := row_c (i := 0) Rx_5.out rfl
  have zx0 := frozen_of_row _ _ 0 _ _ Rx_5.out
  have fx1 := row_c (i := 1) Rx_5.out rfl
  have zx1 := frozen_of_row _ _ 1 _ _ Rx_5.out
  have fx2 := row_c (i := 2) Rx_5.out rfl
  have zx2 := frozen_of_row _ _ 2 _ _ Rx_5.out
  have xx := heap_lt Rx_5.out
  go_wp2_with fail
  refine (odd_any A5 c5 false (k + 1) (y + (z - P)) M E _ (L5.out.get (A := A5) (c := c5) (xs := digs (k + 1)) (by simp)) (Nat.le_trans LK1.out (by omega)) (t32_live HT.out L5.out) ⟨by omega, by omega⟩ HM.out HE.out).mono ?_
  rintro e w6 ⟨A6, c6, rfl, hd, hb⟩
  have L6 := Lib.hid ((L5.out.step hb).add hd)
  clear fx0 zx0 fx1 zx1 fx2 zx2 xx
  have Rx_6 := Lib.hid (cells_of Rx_5.out hb)
  have Rr_6 := Lib.hid (cells_of Rr_5.out hb)
  have Rone_6 := Lib.hid (cells_of Rone_5.out hb)
  clear hb hd
  have fr0 := row_c (i := 0) Rr_6.out rfl
  have zr0 := frozen_of_row _ _ 0 _ _ Rr_6.out
  have fr1 := row_c (i := 1) Rr_6.out rfl
  have zr1 := frozen_of_row _ _ 1 _ _ Rr_6.out
  have fr2 := row_c (i := 2) Rr_6.out rfl
  have zr2 := frozen_of_row _ _ 2 _ _ Rr_6.out
  have xr := heap_lt Rr_6.out
  go_wp2
  refine bodyPost_ret (v := .agg #[.bool (decide (M < 0)), .slice A6 (digs M.natAbs).length c6, .int .i64 E]) (by simp [results, Tryd.results29, go_sem, fr0, fr1, fr2]) rfl ?_
  
  refine ⟨A6, c6, rfl, ?_, ?_⟩
  · exact (fin3 L6.out Rr_6.out noint3 Gr).get (A := A6) (c := c6) (xs := digs M.natAbs) (by simp)
  · exact (fin3 L6.out Rr_6.out noint3 Gr).1

set_option maxHeartbeats 4000000 in
set_option maxRecDepth 100000 in
theorem cut_mla_f (A : Option Addr) (c : Nat) (q : Nat) (y P : Int) (p : Nat) (M E : Int) (w : World) (h : Dg w A c (digs q)) (hl : (digs q).length ≤ 30000) (hT : T32 w) (hP : (p : Int) = P) (p2 : 2 ≤ p) (p4 : p ≤ 400) (hb : p ≤ blen q) (y0 : -900000 ≤ y) (y1 : y ≤ 900000) (hM : nm (sg true (q / 2 ^ (blen q - p) + 1)) = M) (hE : nx (sg true (q / 2 ^ (blen q - p) + 1)) (y + (blen q - p : Nat)) = E):
    Calls Tryd.prog 29 #[.agg #[.bool true, .slice A (digs q).length c, .int .i64 y], .bool true, .int .i64 P, .bool false] w fun e w' => Yr M E w e w' := by
  have q0 : q ≠ 0 := by rintro rfl; rw [blen_zero] at hb; omega
  have b1 : blen q ≤ 960000 := by have := bl_bd (m := (q : Int)) (k := 30000) (by rw [Int.natAbs_natCast]; exact hl); rwa [Int.natAbs_natCast] at this
  obtain ⟨z, hz⟩ : ∃ z : Int, (blen q : Int) = z := ⟨_, rfl⟩
  obtain ⟨d, hd⟩ : ∃ d : Nat, blen q - p = d := ⟨_, rfl⟩
  rw [hd] at hM hE
  have hzd : z - P = (d : Int) := by omega
  have z0 : 0 ≤ z := by omega
  have z1 : z ≤ 960000 := by omega
  have pp0 : 2 ≤ P := by omega
  have pp1 : P ≤ 400 := by omega
  have zp0 : 0 ≤ z - P := by omega
  have HZ := Lib.hid hz
  have HZD := Lib.hid hzd
  have LX := Lib.hid hl
  have Q0 := Lib.hid q0
  have hlk := digs_len_mono _ _ (Nat.div_le_self q (2 ^ d))
  have hdk : d ≤ 960000 := by omega
  have hlk1 := digs_add_len (q / 2 ^ d) 1
  have l1 : (digs 1).length = 1 := by rw [digs_one (by omega) (by omega)]; rfl
  have LK1 := Lib.hid (show (digs (q / 2 ^ d + 1)).length ≤ 30001 by omega)
  have LK := Lib.hid (show (digs (q / 2 ^ d)).length ≤ 30000 by omega)
  obtain ⟨k, hk⟩ : ∃ k, q / 2 ^ d = k := ⟨_, rfl⟩
  rw [hk] at hM hE LK LK1
  have HK := Lib.hid hk
  have HM := Lib.hid hM
  have HE := Lib.hid (show nx (sg true (k + 1)) (y + (z - P)) = E by rw [hzd]; exact hE)
  have SHR := Lib.hid (fun W (hW : Dg W A c (digs q)) => shr_i (i := z - P) hW (by omega) hzd (by omega))
  rw [hk] at SHR
  have HT := Lib.hid hT
  clear hT
  have L0 := Lib.hid ((live_start w).add h)
  clear h hl hP hb hz hd hzd q0 hM hE hlk hlk1 l1 hk b1
  go_enter Tryd.func29, Tryd.ntmps29
  go_wp2_with fail
  obtain ⟨v1, hW⟩ : ∃ W : World, W = ((w.alloc (.cells #[.bool true, .slice A (digs q).length c, .int .i64 y] 26)).alloc (.cells #[.bool false, .slice none 0 0, .int .i64 0] 26)) := ⟨_, rfl⟩
  rw [← hW]
  have hb : Below w.heap.size w v1 := by rw [hW]; exact (((Below.refl _ _).alloc (by simp <;> omega) _).alloc (by simp <;> omega) _)
  have L1 := Lib.hid (L0.out.step hb)
  have Rx_1 := Lib.hid (show v1.heap[w.heap.size]? = some (.cells #[.bool true, .slice A (digs q).length c, .int .i64 y] 26 (0, 0)) by rw [hW]; have := heap_alloc_new w (.cells #[.bool true, .slice A (digs q).length c, .int .i64 y] 26); rw [heap_alloc_old _ _ (by simp <;> omega)]; simpa using this)
  have Gx : w.heap.size ≤ w.heap.size := by have := L0.out.1.size; omega
  have Rr_1 := Lib.hid (show v1.heap[w.heap.size + 1]? = some (.cells #[.bool false, .slice none 0 0, .int .i64 0] 26 (0, 0)) by rw [hW]; have := heap_alloc_new (w.alloc (.cells #[.bool true, .slice A (digs q).length c, .int .i64 y] 26)) (.cells #[.bool false, .slice none 0 0, .int .i64 0] 26); simpa using this)
  have Gr : w.heap.size ≤ w.heap.size + 1 := by have := L0.out.1.size; omega
  have Nxr : w.heap.size < w.heap.size + 1 := by omega
  clear hW hb
  refine (bits_b (L1.out.get (A := A) (c := c) (xs := digs q) (by simp)) (Nat.le_trans LX.out (by omega)) HZ.out).mono ?_
  rintro e w2 ⟨rfl, rfl⟩
  have fx0 := row_c (i := 0) Rx_1.out rfl
  have zx0 := frozen_of_row _ _ 0 _ _ Rx_1.out
  have fx1 := row_c (i := 1) Rx_1.out rfl
  have zx1 := frozen_of_row _ _ 1 _ _ Rx_1.out
  have fx2 := row_c (i := 2) Rx_1.out rfl
  have zx2 := frozen_of_row _ _ 2 _ _ Rx_1.out
  have xx := heap_lt Rx_1.out
  go_wp2_with fail
  refine (SHR.out _ (L1.out.get (A := A) (c := c) (xs := digs q) (by simp))).mono ?_
  rintro e w3 ⟨A3, c3, rfl, hd, hb⟩
  have L3 := Lib.hid ((L1.out.step hb).add hd)
  clear fx0 zx0 fx1 zx1 fx2 zx2 xx
  have Rx_3 := Lib.hid (cells_of Rx_1.out hb)
  have Rr_3 := Lib.hid (cells_of Rr_1.out hb)
  clear hb hd
  have fx0 := row_c (i := 0) Rx_3.out rfl
  have zx0 := frozen_of_row _ _ 0 _ _ Rx_3.out
  have fx1 := row_c (i := 1) Rx_3.out rfl
  have zx1 := frozen_of_row _ _ 1 _ _ Rx_3.out
  have fx2 := row_c (i := 2) Rx_3.out rfl
  have zx2 := frozen_of_row _ _ 2 _ _ Rx_3.out
  have xx := heap_lt Rx_3.out
  go_wp2_with fail
  obtain ⟨w4, hW⟩ : ∃ W : World, W = (w3.alloc (.cells #[.int .u32 1] 41)) := ⟨_, rfl⟩
  rw [← hW]
  have hb : Below w3.heap.size w3 w4 := by rw [hW]; exact ((Below.refl _ _).alloc (by simp <;> omega) _)
  have L4 := Lib.hid (L3.out.step hb)
  have Rx_4 := Lib.hid (cells_of Rx_3.out hb)
  have Rr_4 := Lib.hid (cells_of Rr_3.out hb)
  have Rone_4 := Lib.hid (show w4.heap[w3.heap.size]? = some (.cells #[.int .u32 1] 41 (0, 0)) by rw [hW]; have := heap_alloc_new w3 (.cells #[.int .u32 1] 41); simpa using this)
  have Gone : w.heap.size ≤ w3.heap.size := by have := L3.out.1.size; omega
  have Nxone : w.heap.size < w3.heap.size := by have := heap_lt Rx_3.out; omega
  have Nrone : w.heap.size + 1 < w3.heap.size := by have := heap_lt Rr_3.out; omega
  clear hW hb
  clear fx0 zx0 fx1 zx1 fx2 zx2 xx
  refine (nadd1 (L4.out.get (A := A3) (c := c3) (xs := digs k) (by simp)) (Nat.le_trans LK.out (by omega)) Rone_4.out).mono ?_
  rintro e w5 ⟨A5, c5, rfl, hd, hb⟩
  have L5 := Lib.hid ((L4.out.step hb).add hd)
  have Rx_5 := Lib.hid (cells_of Rx_4.out hb)
  have Rr_5 := Lib.hid (cells_of Rr_4.out hb)
  have Rone_5 := Lib.hid (cells_of Rone_4.out hb)
  clear hb hd
  have fx0 := row_c (i := 0) Rx_5.out rfl
  have zx0 := frozen_of_row _ _ 0 _ _ Rx_5.out
  have fx1 := row_c (i := 1) Rx_5.out rfl
  have zx1 := frozen_of_row _ _ 1 _ _ Rx_5.out
  have fx2 := row_c (i := 2) Rx_5.out rfl
  have zx2 := frozen_of_row _ _ 2 _ _ Rx_5.out
  have xx := heap_lt Rx_5.out
  clear fx0 zx0 fx1 zx1 fx2 zx2 xx
  have fx0 := row_c (i := 0) Rx_5.out rfl
  have zx0 := frozen_of_row _ _ 0 _ _ Rx_5.out
  have fx1 := row_c (i := 1) Rx_5.out rfl
  have zx1 := frozen_of_row _ _ 1 _ _ Rx_5.out
  have fx2 := row_c (i := 2) Rx_5.out rfl
  have zx2 := frozen_of_row _ _ 2 _ _ Rx_5.out
  have xx := heap_lt Rx_5.out
  go_wp2_with fail
  refine (odd_any A5 c5 true (k + 1) (y + (z - P)) M E _ (L5.out.get (A := A5) (c := c5) (xs := digs (k + 1)) (by simp)) (Nat.le_trans LK1.out (by omega)) (t32_live HT.out L5.out) ⟨by omega, by omega⟩ HM.out HE.out).mono ?_
  rintro e w6 ⟨A6, c6, rfl, hd, hb⟩
  have L6 := Lib.hid ((L5.out.step hb).add hd)
  clear fx0 zx0 fx1 zx1 fx2 zx2 xx
  have Rx_6 := Lib.hid (cells_of Rx_5.out hb)
  have Rr_6 := Lib.hid (cells_of Rr_5.out hb)
  have Rone_6 := Lib.hid (cells_of Rone_5.out hb)
  clear hb hd
  have fr0 := row_c (i := 0) Rr_6.out rfl
  have zr0 := frozen_of_row _ _ 0 _ _ Rr_6.out
  have fr1 := row_c (i := 1) Rr_6.out rfl
  have zr1 := frozen_of_row _ _ 1 _ _ Rr_6.out
  have fr2 := row_c (i := 2) Rr_6.out rfl
  have zr2 := frozen_of_row _ _ 2 _ _ Rr_6.out
  have xr := heap_lt Rr_6.out
  go_wp2
  refine bodyPost_ret (v := .agg #[.bool (decide (M < 0)), .slice A6 (digs M.natAbs).length c6, .int .i64 E]) (by simp [results, Tryd.results29, go_sem, fr0, fr1, fr2]) rfl ?_
  
  refine ⟨A6, c6, rfl, ?_, ?_⟩
  · exact (fin3 L6.out Rr_6.out noint3 Gr).get (A := A6) (c := c6) (xs := digs M.natAbs) (by simp)
  · exact (fin3 L6.out Rr_6.out noint3 Gr).1

set_option maxHeartbeats 4000000 in
set_option maxRecDepth 100000 in
theorem cut_mlf_t (A : Option Addr) (c : Nat) (q : Nat) (y P : Int) (p : Nat) (M E : Int) (w : World) (h : Dg w A c (digs q)) (hl : (digs q).length ≤ 30000) (hT : T32 w) (hP : (p : Int) = P) (p2 : 2 ≤ p) (p4 : p ≤ 400) (hb : p ≤ blen q) (y0 : -900000 ≤ y) (y1 : y ≤ 900000) (hM : nm (sg true (q / 2 ^ (blen q - p))) = M) (hE : nx (sg true (q / 2 ^ (blen q - p))) (y + (blen q - p : Nat)) = E):
    Calls Tryd.prog 29 #[.agg #[.bool true, .slice A (digs q).length c, .int .i64 y], .bool true, .int .i64 P, .bool true] w fun e w' => Yr M E w e w' := by
  have q0 : q ≠ 0 := by rintro rfl; rw [blen_zero] at hb; omega
  have b1 : blen q ≤ 960000 := by have := bl_bd (m := (q : Int)) (k := 30000) (by rw [Int.natAbs_natCast]; exact hl); rwa [Int.natAbs_natCast] at this
  obtain ⟨z, hz⟩ : ∃ z : Int, (blen q : Int) = z := ⟨_, rfl⟩
  obtain ⟨d, hd⟩ : ∃ d : Nat, blen q - p = d := ⟨_, rfl⟩
  rw [hd] at hM hE
  have hzd : z - P = (d : Int) := by omega
  have z0 : 0 ≤ z := by omega
  have z1 : z ≤ 960000 := by omega
  have pp0 : 2 ≤ P := by omega
  have pp1 : P ≤ 400 := by omega
  have zp0 : 0 ≤ z - P := by omega
  have HZ := Lib.hid hz
  have HZD := Lib.hid hzd
  have LX := Lib.hid hl
  have Q0 := Lib.hid q0
  have hlk := digs_len_mono _ _ (Nat.div_le_self q (2 ^ d))
  have hdk : d ≤ 960000 := by omega
  have hlk1 := digs_add_len (q / 2 ^ d) 1
  have l1 : (digs 1).length = 1 := by rw [digs_one (by omega) (by omega)]; rfl
  have LK1 := Lib.hid (show (digs (q / 2 ^ d + 1)).length ≤ 30001 by omega)
  have LK := Lib.hid (show (digs (q / 2 ^ d)).length ≤ 30000 by omega)
  obtain ⟨k, hk⟩ : ∃ k, q / 2 ^ d = k := ⟨_, rfl⟩
  rw [hk] at hM hE LK LK1
  have HK := Lib.hid hk
  have HM := Lib.hid hM
  have HE := Lib.hid (show nx (sg true (k)) (y + (z - P)) = E by rw [hzd]; exact hE)
  have SHR := Lib.hid (fun W (hW : Dg W A c (digs q)) => shr_i (i := z - P) hW (by omega) hzd (by omega))
  rw [hk] at SHR
  have HT := Lib.hid hT
  clear hT
  have L0 := Lib.hid ((live_start w).add h)
  clear h hl hP hb hz hd hzd q0 hM hE hlk hlk1 l1 hk b1
  go_enter Tryd.func29, Tryd.ntmps29
  go_wp2_with fail
  obtain ⟨v1, hW⟩ : ∃ W : World, W = ((w.alloc (.cells #[.bool true, .slice A (digs q).length c, .int .i64 y] 26)).alloc (.cells #[.bool false, .slice none 0 0, .int .i64 0] 26)) := ⟨_, rfl⟩
  rw [← hW]
  have hb : Below w.heap.size w v1 := by rw [hW]; exact (((Below.refl _ _).alloc (by simp <;> omega) _).alloc (by simp <;> omega) _)
  have L1 := Lib.hid (L0.out.step hb)
  have Rx_1 := Lib.hid (show v1.heap[w.heap.size]? = some (.cells #[.bool true, .slice A (digs q).length c, .int .i64 y] 26 (0, 0)) by rw [hW]; have := heap_alloc_new w (.cells #[.bool true, .slice A (digs q).length c, .int .i64 y] 26); rw [heap_alloc_old _ _ (by simp <;> omega)]; simpa using this)
  have Gx : w.heap.size ≤ w.heap.size := by have := L0.out.1.size; omega
  have Rr_1 := Lib.hid (show v1.heap[w.heap.size + 1]? = some (.cells #[.bool false, .slice none 0 0, .int .i64 0] 26 (0, 0)) by rw [hW]; have := heap_alloc_new (w.alloc (.cells #[.bool true, .slice A (digs q).length c, .int .i64 y] 26)) (.cells #[.bool false, .slice none 0 0, .int .i64 0] 26); simpa using this)
  have Gr : w.heap.size ≤ w.heap.size + 1 := by have := L0.out.1.size; omega
  have Nxr : w.heap.size < w.heap.size + 1 := by omega
  clear hW hb
  refine (bits_b (L1.out.get (A := A) (c := c) (xs := digs q) (by simp)) (Nat.le_trans LX.out (by omega)) HZ.out).mono ?_
  rintro e w2 ⟨rfl, rfl⟩
  have fx0 := row_c (i := 0) Rx_1.out rfl
  have zx0 := frozen_of_row _ _ 0 _ _ Rx_1.out
  have fx1 := row_c (i := 1) Rx_1.out rfl
  have zx1 := frozen_of_row _ _ 1 _ _ Rx_1.out
  have fx2 := row_c (i := 2) Rx_1.out rfl
  have zx2 := frozen_of_row _ _ 2 _ _ Rx_1.out
  have xx := heap_lt Rx_1.out
  go_wp2_with fail
  refine (SHR.out _ (L1.out.get (A := A) (c := c) (xs := digs q) (by simp))).mono ?_
  rintro e w3 ⟨A3, c3, rfl, hd, hb⟩
  have L3 := Lib.hid ((L1.out.step hb).add hd)
  clear fx0 zx0 fx1 zx1 fx2 zx2 xx
  have Rx_3 := Lib.hid (cells_of Rx_1.out hb)
  have Rr_3 := Lib.hid (cells_of Rr_1.out hb)
  clear hb hd
  have fx0 := row_c (i := 0) Rx_3.out rfl
  have zx0 := frozen_of_row _ _ 0 _ _ Rx_3.out
  have fx1 := row_c (i := 1) Rx_3.out rfl
  have zx1 := frozen_of_row _ _ 1 _ _ Rx_3.out
  have fx2 := row_c (i := 2) Rx_3.out rfl
  have zx2 := frozen_of_row _ _ 2 _ _ Rx_3.out
  have xx := heap_lt Rx_3.out
  clear fx0 zx0 fx1 zx1 fx2 zx2 xx
  have fx0 := row_c (i := 0) Rx_3.out rfl
  have zx0 := frozen_of_row _ _ 0 _ _ Rx_3.out
  have fx1 := row_c (i := 1) Rx_3.out rfl
  have zx1 := frozen_of_row _ _ 1 _ _ Rx_3.out
  have fx2 := row_c (i := 2) Rx_3.out rfl
  have zx2 := frozen_of_row _ _ 2 _ _ Rx_3.out
  have xx := heap_lt Rx_3.out
  go_wp2_with fail
  refine (odd_any A3 c3 true k (y + (z - P)) M E _ (L3.out.get (A := A3) (c := c3) (xs := digs k) (by simp)) (Nat.le_trans LK.out (by omega)) (t32_live HT.out L3.out) ⟨by omega, by omega⟩ HM.out HE.out).mono ?_
  rintro e w4 ⟨A4, c4, rfl, hd, hb⟩
  have L4 := Lib.hid ((L3.out.step hb).add hd)
  clear fx0 zx0 fx1 zx1 fx2 zx2 xx
  have Rx_4 := Lib.hid (cells_of Rx_3.out hb)
  have Rr_4 := Lib.hid (cells_of Rr_3.out hb)
  clear hb hd
  have fr0 := row_c (i := 0) Rr_4.out rfl
  have zr0 := frozen_of_row _ _ 0 _ _ Rr_4.out
  have fr1 := row_c (i := 1) Rr_4.out rfl
  have zr1 := frozen_of_row _ _ 1 _ _ Rr_4.out
  have fr2 := row_c (i := 2) Rr_4.out rfl
  have zr2 := frozen_of_row _ _ 2 _ _ Rr_4.out
  have xr := heap_lt Rr_4.out
  go_wp2
  refine bodyPost_ret (v := .agg #[.bool (decide (M < 0)), .slice A4 (digs M.natAbs).length c4, .int .i64 E]) (by simp [results, Tryd.results29, go_sem, fr0, fr1, fr2]) rfl ?_
  
  refine ⟨A4, c4, rfl, ?_, ?_⟩
  · exact (fin3 L4.out Rr_4.out noint3 Gr).get (A := A4) (c := c4) (xs := digs M.natAbs) (by simp)
  · exact (fin3 L4.out Rr_4.out noint3 Gr).1

set_option maxHeartbeats 4000000 in
set_option maxRecDepth 100000 in
theorem cut_mlf_f (A : Option Addr) (c : Nat) (q : Nat) (y P : Int) (p : Nat) (M E : Int) (w : World) (h : Dg w A c (digs q)) (hl : (digs q).length ≤ 30000) (hT : T32 w) (hP : (p : Int) = P) (p2 : 2 ≤ p) (p4 : p ≤ 400) (hb : p ≤ blen q) (y0 : -900000 ≤ y) (y1 : y ≤ 900000) (hM : nm (sg false (q / 2 ^ (blen q - p))) = M) (hE : nx (sg false (q / 2 ^ (blen q - p))) (y + (blen q - p : Nat)) = E):
    Calls Tryd.prog 29 #[.agg #[.bool false, .slice A (digs q).length c, .int .i64 y], .bool true, .int .i64 P, .bool false] w fun e w' => Yr M E w e w' := by
  have q0 : q ≠ 0 := by rintro rfl; rw [blen_zero] at hb; omega
  have b1 : blen q ≤ 960000 := by have := bl_bd (m := (q : Int)) (k := 30000) (by rw [Int.natAbs_natCast]; exact hl); rwa [Int.natAbs_natCast] at this
  obtain ⟨z, hz⟩ : ∃ z : Int, (blen q : Int) = z := ⟨_, rfl⟩
  obtain ⟨d, hd⟩ : ∃ d : Nat, blen q - p = d := ⟨_, rfl⟩
  rw [hd] at hM hE
  have hzd : z - P = (d : Int) := by omega
  have z0 : 0 ≤ z := by omega
  have z1 : z ≤ 960000 := by omega
  have pp0 : 2 ≤ P := by omega
  have pp1 : P ≤ 400 := by omega
  have zp0 : 0 ≤ z - P := by omega
  have HZ := Lib.hid hz
  have HZD := Lib.hid hzd
  have LX := Lib.hid hl
  have Q0 := Lib.hid q0
  have hlk := digs_len_mono _ _ (Nat.div_le_self q (2 ^ d))
  have hdk : d ≤ 960000 := by omega
  have hlk1 := digs_add_len (q / 2 ^ d) 1
  have l1 : (digs 1).length = 1 := by rw [digs_one (by omega) (by omega)]; rfl
  have LK1 := Lib.hid (show (digs (q / 2 ^ d + 1)).length ≤ 30001 by omega)
  have LK := Lib.hid (show (digs (q / 2 ^ d)).length ≤ 30000 by omega)
  obtain ⟨k, hk⟩ : ∃ k, q / 2 ^ d = k := ⟨_, rfl⟩
  rw [hk] at hM hE LK LK1
  have HK := Lib.hid hk
  have HM := Lib.hid hM
  have HE := Lib.hid (show nx (sg false (k)) (y + (z - P)) = E by rw [hzd]; exact hE)
  have SHR := Lib.hid (fun W (hW : Dg W A c (digs q)) => shr_i (i := z - P) hW (by omega) hzd (by omega))
  rw [hk] at SHR
  have HT := Lib.hid hT
  clear hT
  have L0 := Lib.hid ((live_start w).add h)
  clear h hl hP hb hz hd hzd q0 hM hE hlk hlk1 l1 hk b1
  go_enter Tryd.func29, Tryd.ntmps29
  go_wp2_with fail
  obtain ⟨v1, hW⟩ : ∃ W : World, W = ((w.alloc (.cells #[.bool false, .slice A (digs q).length c, .int .i64 y] 26)).alloc (.cells #[.bool false, .slice none 0 0, .int .i64 0] 26)) := ⟨_, rfl⟩
  rw [← hW]
  have hb : Below w.heap.size w v1 := by rw [hW]; exact (((Below.refl _ _).alloc (by simp <;> omega) _).alloc (by simp <;> omega) _)
  have L1 := Lib.hid (L0.out.step hb)
  have Rx_1 := Lib.hid (show v1.heap[w.heap.size]? = some (.cells #[.bool false, .slice A (digs q).length c, .int .i64 y] 26 (0, 0)) by rw [hW]; have := heap_alloc_new w (.cells #[.bool false, .slice A (digs q).length c, .int .i64 y] 26); rw [heap_alloc_old _ _ (by simp <;> omega)]; simpa using this)
  have Gx : w.heap.size ≤ w.heap.size := by have := L0.out.1.size; omega
  have Rr_1 := Lib.hid (show v1.heap[w.heap.size + 1]? = some (.cells #[.bool false, .slice none 0 0, .int .i64 0] 26 (0, 0)) by rw [hW]; have := heap_alloc_new (w.alloc (.cells #[.bool false, .slice A (digs q).length c, .int .i64 y] 26)) (.cells #[.bool false, .slice none 0 0, .int .i64 0] 26); simpa using this)
  have Gr : w.heap.size ≤ w.heap.size + 1 := by have := L0.out.1.size; omega
  have Nxr : w.heap.size < w.heap.size + 1 := by omega
  clear hW hb
  refine (bits_b (L1.out.get (A := A) (c := c) (xs := digs q) (by simp)) (Nat.le_trans LX.out (by omega)) HZ.out).mono ?_
  rintro e w2 ⟨rfl, rfl⟩
  have fx0 := row_c (i := 0) Rx_1.out rfl
  have zx0 := frozen_of_row _ _ 0 _ _ Rx_1.out
  have fx1 := row_c (i := 1) Rx_1.out rfl
  have zx1 := frozen_of_row _ _ 1 _ _ Rx_1.out
  have fx2 := row_c (i := 2) Rx_1.out rfl
  have zx2 := frozen_of_row _ _ 2 _ _ Rx_1.out
  have xx := heap_lt Rx_1.out
  go_wp2_with fail
  refine (SHR.out _ (L1.out.get (A := A) (c := c) (xs := digs q) (by simp))).mono ?_
  rintro e w3 ⟨A3, c3, rfl, hd, hb⟩
  have L3 := Lib.hid ((L1.out.step hb).add hd)
  clear fx0 zx0 fx1 zx1 fx2 zx2 xx
  have Rx_3 := Lib.hid (cells_of Rx_1.out hb)
  have Rr_3 := Lib.hid (cells_of Rr_1.out hb)
  clear hb hd
  have fx0 := row_c (i := 0) Rx_3.out rfl
  have zx0 := frozen_of_row _ _ 0 _ _ Rx_3.out
  have fx1 := row_c (i := 1) Rx_3.out rfl
  have zx1 := frozen_of_row _ _ 1 _ _ Rx_3.out
  have fx2 := row_c (i := 2) Rx_3.out rfl
  have zx2 := frozen_of_row _ _ 2 _ _ Rx_3.out
  have xx := heap_lt Rx_3.out
  clear fx0 zx0 fx1 zx1 fx2 zx2 xx
  have fx0 := row_c (i := 0) Rx_3.out rfl
  have zx0 := frozen_of_row _ _ 0 _ _ Rx_3.out
  have fx1 := row_c (i := 1) Rx_3.out rfl
  have zx1 := frozen_of_row _ _ 1 _ _ Rx_3.out
  have fx2 := row_c (i := 2) Rx_3.out rfl
  have zx2 := frozen_of_row _ _ 2 _ _ Rx_3.out
  have xx := heap_lt Rx_3.out
  go_wp2_with fail
  refine (odd_any A3 c3 false k (y + (z - P)) M E _ (L3.out.get (A := A3) (c := c3) (xs := digs k) (by simp)) (Nat.le_trans LK.out (by omega)) (t32_live HT.out L3.out) ⟨by omega, by omega⟩ HM.out HE.out).mono ?_
  rintro e w4 ⟨A4, c4, rfl, hd, hb⟩
  have L4 := Lib.hid ((L3.out.step hb).add hd)
  clear fx0 zx0 fx1 zx1 fx2 zx2 xx
  have Rx_4 := Lib.hid (cells_of Rx_3.out hb)
  have Rr_4 := Lib.hid (cells_of Rr_3.out hb)
  clear hb hd
  have fr0 := row_c (i := 0) Rr_4.out rfl
  have zr0 := frozen_of_row _ _ 0 _ _ Rr_4.out
  have fr1 := row_c (i := 1) Rr_4.out rfl
  have zr1 := frozen_of_row _ _ 1 _ _ Rr_4.out
  have fr2 := row_c (i := 2) Rr_4.out rfl
  have zr2 := frozen_of_row _ _ 2 _ _ Rr_4.out
  have xr := heap_lt Rr_4.out
  go_wp2
  refine bodyPost_ret (v := .agg #[.bool (decide (M < 0)), .slice A4 (digs M.natAbs).length c4, .int .i64 E]) (by simp [results, Tryd.results29, go_sem, fr0, fr1, fr2]) rfl ?_
  
  refine ⟨A4, c4, rfl, ?_, ?_⟩
  · exact (fin3 L4.out Rr_4.out noint3 Gr).get (A := A4) (c := c4) (xs := digs M.natAbs) (by simp)
  · exact (fin3 L4.out Rr_4.out noint3 Gr).1

theorem cut_any (A : Option Addr) (c : Nat) (s up more : Bool) (q : Nat) (y P : Int) (p : Nat) (M E : Int) (w : World) (h : Dg w A c (digs q)) (hl : (digs q).length ≤ 30000) (hT : T32 w) (hP : (p : Int) = P) (p2 : 2 ≤ p) (p4 : p ≤ 400) (hb : p ≤ blen q) (y0 : -900000 ≤ y) (y1 : y ≤ 900000) (hM : nm (sg s (kept q p more (up != s))) = M) (hE : nx (sg s (kept q p more (up != s))) (y + (blen q - p : Nat)) = E) :
    Calls Tryd.prog 29 #[.agg #[.bool s, .slice A (digs q).length c, .int .i64 y], .bool more, .int .i64 P, .bool up] w fun e w' => Yr M E w e w' := by
  unfold kept at hM hE
  cases more
  · rcases hlow : decide (q % 2 ^ (blen q - p) ≠ 0) with _ | _
    · rw [hlow] at hM hE
      simp only [Bool.or_self, Bool.false_and, Bool.false_eq_true, if_false, Nat.add_zero] at hM hE
      cases s <;> cases up
      · exact cut_nnf_f A c q y P p M E w h hl hT hP p2 p4 hb y0 y1 hM hE hlow
      · exact cut_nna_t A c q y P p M E w h hl hT hP p2 p4 hb y0 y1 hM hE hlow
      · exact cut_nna_f A c q y P p M E w h hl hT hP p2 p4 hb y0 y1 hM hE hlow
      · exact cut_nnf_t A c q y P p M E w h hl hT hP p2 p4 hb y0 y1 hM hE hlow
    · rw [hlow] at hM hE
      cases s <;> cases up
      · exact cut_nlf_f A c q y P p M E w h hl hT hP p2 p4 hb y0 y1 (by simpa using hM) (by simpa using hE) hlow
      · exact cut_nla_t A c q y P p M E w h hl hT hP p2 p4 hb y0 y1 (by simpa using hM) (by simpa using hE) hlow
      · exact cut_nla_f A c q y P p M E w h hl hT hP p2 p4 hb y0 y1 (by simpa using hM) (by simpa using hE) hlow
      · exact cut_nlf_t A c q y P p M E w h hl hT hP p2 p4 hb y0 y1 (by simpa using hM) (by simpa using hE) hlow
  · cases s <;> cases up
    · exact cut_mlf_f A c q y P p M E w h hl hT hP p2 p4 hb y0 y1 (by simpa using hM) (by simpa using hE)
    · exact cut_mla_t A c q y P p M E w h hl hT hP p2 p4 hb y0 y1 (by simpa using hM) (by simpa using hE)
    · exact cut_mla_f A c q y P p M E w h hl hT hP p2 p4 hb y0 y1 (by simpa using hM) (by simpa using hE)
    · exact cut_mlf_t A c q y P p M E w h hl hT hP p2 p4 hb y0 y1 (by simpa using hM) (by simpa using hE)
end Go.Proofs.YtcfoepogbfngmaaDoor
end

section
/-
  dyad.Round.
-/
namespace Go.Proofs.YtcfoepogbfngmaaDoor
open Go.RowKit
set_option linter.unusedSimpArgs false
set_option linter.unusedVariables false
theorem rd_kept {q p : Nat} {more up s : Bool} {r : Rat} {e : Int} (hp : p ≤ blen q) (h1 : 1 ≤ p) (hlo : dv q e ≤ r) (hhi : r < dv (q + 1 : Int) e) (hm : more = decide (r ≠ dv q e)) :
    RdOf (if s then -r else r) p up (nm (sg s (kept q p more (up != s)))) (nx (sg s (kept q p more (up != s))) (e + (blen q - p : Nat))) := by
  have ⟨hs, hr⟩ := kept_rn (away := (up != s)) hp h1 hlo hhi hm
  refine ⟨nf_n _ _, .inr ⟨e + (blen q - p : Nat), sg s (kept q p more (up != s)), ?_, ?_, dv_n _ _⟩⟩
  · cases s
    · exact hs
    · show Sz (-r) _
      unfold Sz at hs ⊢
      rw [Rat.abs_neg]; exact hs
  · cases s
    · have e1 : (up != false) = up := by cases up <;> rfl
      rw [e1] at hr ⊢
      exact hr
    · have e1 : (up != true) = !up := by cases up <;> rfl
      rw [e1] at hr ⊢
      have := hr.neg
      rw [Bool.not_not] at this
      exact this
theorem dv_sign (m x : Int) : dv m x = if decide (m < 0) = true then -dv (m.natAbs : Int) x else dv (m.natAbs : Int) x := by
  by_cases h : m < 0
  · rw [if_pos (by simpa using h), ← dv_neg]; congr 1; omega
  · rw [if_neg (by simpa using h)]; congr 1; omega
theorem precB_in {P : Int} (h0 : 2 ≤ P) (h1 : P ≤ 400) : precB P = true := by unfold precB; rw [decide_eq_true h0, decide_eq_true h1]; rfl

set_option maxHeartbeats 4000000 in
set_option maxRecDepth 100000 in
theorem round_s_ (A : Option Addr) (c : Nat) (m x P M E : Int) (up : Bool) (w : World) (h : Dg w A c (digs m.natAbs)) (hl : (digs m.natAbs).length ≤ 10000) (r1 : Rt m x) (hT : T32 w) {p : Nat} (hP : (p : Int) = P) (p2 : 2 ≤ p) (p4 : p ≤ 400) (hs : RdOf (dv m x) p up M E) (hq : inR M E = true) (hc : bl m ≤ p):
    Calls Tryd.prog 10 #[.agg #[.bool (decide (m < 0)), .slice A (digs m.natAbs).length c, .int .i64 x], .int .i64 P, .bool up] w fun e w' => Ye M E 0 w e w' := by
  have HR1 := Lib.hid r1
  have lx := Lib.hid hl
  have HQ := Lib.hid hq
  have x0 := r1.2.1
  have x1 := r1.2.2
  have LM := Lib.hid (inr_len hq)
  have HPR := Lib.hid (precB_in (P := P) (by omega) (by omega))
  have b1 := bl_bd hl
  obtain ⟨z, hz⟩ : ∃ z : Int, (blen m.natAbs : Int) = z := ⟨_, rfl⟩
  have HZ := Lib.hid hz
  have d1 : decide (z ≤ P) = true := by simp; unfold bl at hc; omega
  obtain ⟨rfl, rfl⟩ := RdOf.uniq (rd_self (up := up) r1.1 hc) hs
  have HT := Lib.hid hT
  clear hT
  have L0 := Lib.hid ((live_start w).add h)
  clear h hl r1 hs hq hP hz b1 hc
  go_enter Tryd.func10, Tryd.ntmps10
  go_wp2_with fail
  obtain ⟨v1, hW⟩ : ∃ W : World, W = (((w.alloc (.cells #[.bool (decide (m < 0)), .slice A (digs m.natAbs).length c, .int .i64 x] 26)).alloc (.cells #[.bool false, .slice none 0 0, .int .i64 0] 26)).alloc (.cells #[.bool (decide (m < 0)), .slice A (digs m.natAbs).length c, .int .i64 x] 26)) := ⟨_, rfl⟩
  rw [← hW]
  have hb : Below w.heap.size w v1 := by rw [hW]; exact ((((Below.refl _ _).alloc (by simp <;> omega) _).alloc (by simp <;> omega) _).alloc (by simp <;> omega) _)
  have L1 := Lib.hid (L0.out.step hb)
  have Rx_1 := Lib.hid (show v1.heap[w.heap.size]? = some (.cells #[.bool (decide (m < 0)), .slice A (digs m.natAbs).length c, .int .i64 x] 26 (0, 0)) by rw [hW]; have := heap_alloc_new w (.cells #[.bool (decide (m < 0)), .slice A (digs m.natAbs).length c, .int .i64 x] 26); rw [heap_alloc_old _ _ (by simp <;> omega)]; rw [heap_alloc_old _ _ (by simp <;> omega)]; simpa using this)
  have Gx : w.heap.size ≤ w.heap.size := by have := L0.out.1.size; omega
  have Rr_1 := Lib.hid (show v1.heap[w.heap.size + 1]? = some (.cells #[.bool false, .slice none 0 0, .int .i64 0] 26 (0, 0)) by rw [hW]; have := heap_alloc_new (w.alloc (.cells #[.bool (decide (m < 0)), .slice A (digs m.natAbs).length c, .int .i64 x] 26)) (.cells #[.bool false, .slice none 0 0, .int .i64 0] 26); rw [heap_alloc_old _ _ (by simp <;> omega)]; simpa using this)
  have Gr : w.heap.size ≤ w.heap.size + 1 := by have := L0.out.1.size; omega
  have Nxr : w.heap.size < w.heap.size + 1 := by omega
  have Rsl_1 := Lib.hid (show v1.heap[w.heap.size + 1 + 1]? = some (.cells #[.bool (decide (m < 0)), .slice A (digs m.natAbs).length c, .int .i64 x] 26 (0, 0)) by rw [hW]; have := heap_alloc_new ((w.alloc (.cells #[.bool (decide (m < 0)), .slice A (digs m.natAbs).length c, .int .i64 x] 26)).alloc (.cells #[.bool false, .slice none 0 0, .int .i64 0] 26)) (.cells #[.bool (decide (m < 0)), .slice A (digs m.natAbs).length c, .int .i64 x] 26); simpa using this)
  have Gsl : w.heap.size ≤ w.heap.size + 1 + 1 := by have := L0.out.1.size; omega
  have Nxsl : w.heap.size < w.heap.size + 1 + 1 := by omega
  have Nrsl : w.heap.size + 1 < w.heap.size + 1 + 1 := by omega
  clear hW hb
  refine (begin_1 Rsl_1.out (L1.out.get (A := A) (c := c) (xs := digs m.natAbs) (by simp)) (dyR_num HR1.out) (Nat.le_trans lx.out (by omega)) (k := 0) rfl).mono ?_
  rintro e w2 ⟨rfl, hb⟩
  have L2 := Lib.hid (L1.out.step hb)
  have Rx_2 := Lib.hid (cells_of Rx_1.out hb)
  have Rr_2 := Lib.hid (cells_of Rr_1.out hb)
  have Rsl_2 := Lib.hid (cells_of Rsl_1.out hb)
  clear hb 
  go_wp2_with fail
  obtain ⟨w3, hW⟩ : ∃ W : World, W = (w2.alloc (.cells #[.int .i64 0] 48)) := ⟨_, rfl⟩
  rw [← hW]
  have hb : Below w2.heap.size w2 w3 := by rw [hW]; exact ((Below.refl _ _).alloc (by simp <;> omega) _)
  have L3 := Lib.hid (L2.out.step hb)
  have Rx_3 := Lib.hid (cells_of Rx_2.out hb)
  have Rr_3 := Lib.hid (cells_of Rr_2.out hb)
  have Rsl_3 := Lib.hid (cells_of Rsl_2.out hb)
  have Rk_3 := Lib.hid (show w3.heap[w2.heap.size]? = some (.cells #[.int .i64 0] 48 (0, 0)) by rw [hW]; have := heap_alloc_new w2 (.cells #[.int .i64 0] 48); simpa using this)
  have Gk : w.heap.size ≤ w2.heap.size := by have := L2.out.1.size; omega
  have Nxk : w.heap.size < w2.heap.size := by have := heap_lt Rx_2.out; omega
  have Nrk : w.heap.size + 1 < w2.heap.size := by have := heap_lt Rr_2.out; omega
  have Nslk : w.heap.size + 1 + 1 < w2.heap.size := by have := heap_lt Rsl_2.out; omega
  clear hW hb
  refine (precision_no _ 0 P _ (row_c Rk_3.out (i := 0) rfl) (.inl HPR.out)).mono ?_
  rintro e w4 ⟨rfl, rfl⟩
  go_wp2_with fail
  refine (fails_any _ 0 false _ (row_c Rk_3.out (i := 0) rfl) rfl).mono ?_
  rintro e w5 ⟨rfl, rfl⟩
  have fx0 := row_c (i := 0) Rx_3.out rfl
  have zx0 := frozen_of_row _ _ 0 _ _ Rx_3.out
  have fx1 := row_c (i := 1) Rx_3.out rfl
  have zx1 := frozen_of_row _ _ 1 _ _ Rx_3.out
  have fx2 := row_c (i := 2) Rx_3.out rfl
  have zx2 := frozen_of_row _ _ 2 _ _ Rx_3.out
  have xx := heap_lt Rx_3.out
  go_wp2_with fail
  refine (bits_b (L3.out.get (A := A) (c := c) (xs := digs m.natAbs) (by simp)) (Nat.le_trans lx.out (by omega)) HZ.out).mono ?_
  rintro e w6 ⟨rfl, rfl⟩
  clear fx0 zx0 fx1 zx1 fx2 zx2 xx
  have fx0 := row_c (i := 0) Rx_3.out rfl
  have zx0 := frozen_of_row _ _ 0 _ _ Rx_3.out
  have fx1 := row_c (i := 1) Rx_3.out rfl
  have zx1 := frozen_of_row _ _ 1 _ _ Rx_3.out
  have fx2 := row_c (i := 2) Rx_3.out rfl
  have zx2 := frozen_of_row _ _ 2 _ _ Rx_3.out
  have xx := heap_lt Rx_3.out
  go_wp2_with fail
  refine (answer_d (row_c Rk_3.out (i := 0) rfl) (heap_lt Rk_3.out) (L3.out.get (A := A) (c := c) (xs := digs m.natAbs) (by simp)) (Nat.le_trans LM.out (by omega)) HQ.out).mono ?_
  rintro e w7 ⟨A7, c7, rfl, hd, hb⟩
  have L7 := Lib.hid ((L3.out.step hb).add hd)
  clear fx0 zx0 fx1 zx1 fx2 zx2 xx
  have Rx_7 := Lib.hid (cells_of Rx_3.out hb)
  have Rr_7 := Lib.hid (cells_of Rr_3.out hb)
  have Rsl_7 := Lib.hid (cells_of Rsl_3.out hb)
  have Rk_7 := Lib.hid (cells_of Rk_3.out hb)
  clear hb hd
  have fr0 := row_c (i := 0) Rr_7.out rfl
  have zr0 := frozen_of_row _ _ 0 _ _ Rr_7.out
  have fr1 := row_c (i := 1) Rr_7.out rfl
  have zr1 := frozen_of_row _ _ 1 _ _ Rr_7.out
  have fr2 := row_c (i := 2) Rr_7.out rfl
  have zr2 := frozen_of_row _ _ 2 _ _ Rr_7.out
  have xr := heap_lt Rr_7.out
  go_wp2
  refine bodyPost_ret (v := .tuple #[.agg #[.bool (decide (m < 0)), .slice A7 (digs m.natAbs).length c7, .int .i64 x], .int .i64 0]) (by simp [results, Tryd.results10, go_sem, fr0, fr1, fr2]) rfl ?_
  
  refine ⟨A7, c7, rfl, ?_, ?_⟩
  · exact (fin3 L7.out Rr_7.out noint3 Gr).get (A := A7) (c := c7) (xs := digs m.natAbs) (by simp)
  · exact (fin3 L7.out Rr_7.out noint3 Gr).1

set_option maxHeartbeats 4000000 in
set_option maxRecDepth 100000 in
theorem round_b_ (A : Option Addr) (c : Nat) (m x P M E : Int) (up : Bool) (w : World) (h : Dg w A c (digs m.natAbs)) (hl : (digs m.natAbs).length ≤ 10000) (r1 : Rt m x) (hT : T32 w) {p : Nat} (hP : (p : Int) = P) (p2 : 2 ≤ p) (p4 : p ≤ 400) (hs : RdOf (dv m x) p up M E) (hq : inR M E = true) (hc : p < bl m):
    Calls Tryd.prog 10 #[.agg #[.bool (decide (m < 0)), .slice A (digs m.natAbs).length c, .int .i64 x], .int .i64 P, .bool up] w fun e w' => Ye M E 0 w e w' := by
  have HR1 := Lib.hid r1
  have lx := Lib.hid hl
  have HQ := Lib.hid hq
  have x0 := r1.2.1
  have x1 := r1.2.2
  have LM := Lib.hid (inr_len hq)
  have HPR := Lib.hid (precB_in (P := P) (by omega) (by omega))
  have b1 := bl_bd hl
  obtain ⟨z, hz⟩ : ∃ z : Int, (blen m.natAbs : Int) = z := ⟨_, rfl⟩
  have HZ := Lib.hid hz
  have d1 : decide (z ≤ P) = false := by simp; unfold bl at hc; omega
  have hk := rd_kept (q := m.natAbs) (p := p) (more := false) (up := up) (s := decide (m < 0)) (r := dv (m.natAbs : Int) x) (e := x) (by unfold bl at hc; omega) (by omega) Rat.le_refl (dv_lt.2 (by omega)) (by simp)
  rw [← dv_sign] at hk
  have hu := RdOf.uniq hk hs
  have HM := Lib.hid hu.1
  have HE := Lib.hid hu.2
  have HP2 := Lib.hid hP
  have HB := Lib.hid (show p ≤ blen m.natAbs by unfold bl at hc; omega)
  have HT := Lib.hid hT
  clear hT
  have L0 := Lib.hid ((live_start w).add h)
  clear h hl r1 hs hq hP hz b1 hc hk hu
  go_enter Tryd.func10, Tryd.ntmps10
  go_wp2_with fail
  obtain ⟨v1, hW⟩ : ∃ W : World, W = (((w.alloc (.cells #[.bool (decide (m < 0)), .slice A (digs m.natAbs).length c, .int .i64 x] 26)).alloc (.cells #[.bool false, .slice none 0 0, .int .i64 0] 26)).alloc (.cells #[.bool (decide (m < 0)), .slice A (digs m.natAbs).length c, .int .i64 x] 26)) := ⟨_, rfl⟩
  rw [← hW]
  have hb : Below w.heap.size w v1 := by rw [hW]; exact ((((Below.refl _ _).alloc (by simp <;> omega) _).alloc (by simp <;> omega) _).alloc (by simp <;> omega) _)
  have L1 := Lib.hid (L0.out.step hb)
  have Rx_1 := Lib.hid (show v1.heap[w.heap.size]? = some (.cells #[.bool (decide (m < 0)), .slice A (digs m.natAbs).length c, .int .i64 x] 26 (0, 0)) by rw [hW]; have := heap_alloc_new w (.cells #[.bool (decide (m < 0)), .slice A (digs m.natAbs).length c, .int .i64 x] 26); rw [heap_alloc_old _ _ (by simp <;> omega)]; rw [heap_alloc_old _ _ (by simp <;> omega)]; simpa using this)
  have Gx : w.heap.size ≤ w.heap.size := by have := L0.out.1.size; omega
  have Rr_1 := Lib.hid (show v1.heap[w.heap.size + 1]? = some (.cells #[.bool false, .slice none 0 0, .int .i64 0] 26 (0, 0)) by rw [hW]; have := heap_alloc_new (w.alloc (.cells #[.bool (decide (m < 0)), .slice A (digs m.natAbs).length c, .int .i64 x] 26)) (.cells #[.bool false, .slice none 0 0, .int .i64 0] 26); rw [heap_alloc_old _ _ (by simp <;> omega)]; simpa using this)
  have Gr : w.heap.size ≤ w.heap.size + 1 := by have := L0.out.1.size; omega
  have Nxr : w.heap.size < w.heap.size + 1 := by omega
  have Rsl_1 := Lib.hid (show v1.heap[w.heap.size + 1 + 1]? = some (.cells #[.bool (decide (m < 0)), .slice A (digs m.natAbs).length c, .int .i64 x] 26 (0, 0)) by rw [hW]; have := heap_alloc_new ((w.alloc (.cells #[.bool (decide (m < 0)), .slice A (digs m.natAbs).length c, .int .i64 x] 26)).alloc (.cells #[.bool false, .slice none 0 0, .int .i64 0] 26)) (.cells #[.bool (decide (m < 0)), .slice A (digs m.natAbs).length c, .int .i64 x] 26); simpa using this)
  have Gsl : w.heap.size ≤ w.heap.size + 1 + 1 := by have := L0.out.1.size; omega
  have Nxsl : w.heap.size < w.heap.size + 1 + 1 := by omega
  have Nrsl : w.heap.size + 1 < w.heap.size + 1 + 1 := by omega
  clear hW hb
  refine (begin_1 Rsl_1.out (L1.out.get (A := A) (c := c) (xs := digs m.natAbs) (by simp)) (dyR_num HR1.out) (Nat.le_trans lx.out (by omega)) (k := 0) rfl).mono ?_
  rintro e w2 ⟨rfl, hb⟩
  have L2 := Lib.hid (L1.out.step hb)
  have Rx_2 := Lib.hid (cells_of Rx_1.out hb)
  have Rr_2 := Lib.hid (cells_of Rr_1.out hb)
  have Rsl_2 := Lib.hid (cells_of Rsl_1.out hb)
  clear hb 
  go_wp2_with fail
  obtain ⟨w3, hW⟩ : ∃ W : World, W = (w2.alloc (.cells #[.int .i64 0] 48)) := ⟨_, rfl⟩
  rw [← hW]
  have hb : Below w2.heap.size w2 w3 := by rw [hW]; exact ((Below.refl _ _).alloc (by simp <;> omega) _)
  have L3 := Lib.hid (L2.out.step hb)
  have Rx_3 := Lib.hid (cells_of Rx_2.out hb)
  have Rr_3 := Lib.hid (cells_of Rr_2.out hb)
  have Rsl_3 := Lib.hid (cells_of Rsl_2.out hb)
  have Rk_3 := Lib.hid (show w3.heap[w2.heap.size]? = some (.cells #[.int .i64 0] 48 (0, 0)) by rw [hW]; have := heap_alloc_new w2 (.cells #[.int .i64 0] 48); simpa using this)
  have Gk : w.heap.size ≤ w2.heap.size := by have := L2.out.1.size; omega
  have Nxk : w.heap.size < w2.heap.size := by have := heap_lt Rx_2.out; omega
  have Nrk : w.heap.size + 1 < w2.heap.size := by have := heap_lt Rr_2.out; omega
  have Nslk : w.heap.size + 1 + 1 < w2.heap.size := by have := heap_lt Rsl_2.out; omega
  clear hW hb
  refine (precision_no _ 0 P _ (row_c Rk_3.out (i := 0) rfl) (.inl HPR.out)).mono ?_
  rintro e w4 ⟨rfl, rfl⟩
  go_wp2_with fail
  refine (fails_any _ 0 false _ (row_c Rk_3.out (i := 0) rfl) rfl).mono ?_
  rintro e w5 ⟨rfl, rfl⟩
  have fx0 := row_c (i := 0) Rx_3.out rfl
  have zx0 := frozen_of_row _ _ 0 _ _ Rx_3.out
  have fx1 := row_c (i := 1) Rx_3.out rfl
  have zx1 := frozen_of_row _ _ 1 _ _ Rx_3.out
  have fx2 := row_c (i := 2) Rx_3.out rfl
  have zx2 := frozen_of_row _ _ 2 _ _ Rx_3.out
  have xx := heap_lt Rx_3.out
  go_wp2_with fail
  refine (bits_b (L3.out.get (A := A) (c := c) (xs := digs m.natAbs) (by simp)) (Nat.le_trans lx.out (by omega)) HZ.out).mono ?_
  rintro e w6 ⟨rfl, rfl⟩
  clear fx0 zx0 fx1 zx1 fx2 zx2 xx
  have fx0 := row_c (i := 0) Rx_3.out rfl
  have zx0 := frozen_of_row _ _ 0 _ _ Rx_3.out
  have fx1 := row_c (i := 1) Rx_3.out rfl
  have zx1 := frozen_of_row _ _ 1 _ _ Rx_3.out
  have fx2 := row_c (i := 2) Rx_3.out rfl
  have zx2 := frozen_of_row _ _ 2 _ _ Rx_3.out
  have xx := heap_lt Rx_3.out
  go_wp2_with fail
  refine (cut_any A c (decide (m < 0)) up false m.natAbs x P p M E _ (L3.out.get (A := A) (c := c) (xs := digs m.natAbs) (by simp)) (Nat.le_trans lx.out (by omega)) (t32_live HT.out L3.out) HP2.out p2 p4 HB.out (by omega) (by omega) HM.out HE.out).mono ?_
  rintro e w7 ⟨A7, c7, rfl, hd, hb⟩
  have L7 := Lib.hid ((L3.out.step hb).add hd)
  clear fx0 zx0 fx1 zx1 fx2 zx2 xx
  have Rx_7 := Lib.hid (cells_of Rx_3.out hb)
  have Rr_7 := Lib.hid (cells_of Rr_3.out hb)
  have Rsl_7 := Lib.hid (cells_of Rsl_3.out hb)
  have Rk_7 := Lib.hid (cells_of Rk_3.out hb)
  clear hb hd
  go_wp2_with fail
  refine (answer_d (row_c Rk_7.out (i := 0) rfl) (heap_lt Rk_7.out) (L7.out.get (A := A7) (c := c7) (xs := digs M.natAbs) (by simp)) (Nat.le_trans LM.out (by omega)) HQ.out).mono ?_
  rintro e w8 ⟨A8, c8, rfl, hd, hb⟩
  have L8 := Lib.hid ((L7.out.step hb).add hd)
  have Rx_8 := Lib.hid (cells_of Rx_7.out hb)
  have Rr_8 := Lib.hid (cells_of Rr_7.out hb)
  have Rsl_8 := Lib.hid (cells_of Rsl_7.out hb)
  have Rk_8 := Lib.hid (cells_of Rk_7.out hb)
  clear hb hd
  have fr0 := row_c (i := 0) Rr_8.out rfl
  have zr0 := frozen_of_row _ _ 0 _ _ Rr_8.out
  have fr1 := row_c (i := 1) Rr_8.out rfl
  have zr1 := frozen_of_row _ _ 1 _ _ Rr_8.out
  have fr2 := row_c (i := 2) Rr_8.out rfl
  have zr2 := frozen_of_row _ _ 2 _ _ Rr_8.out
  have xr := heap_lt Rr_8.out
  go_wp2
  refine bodyPost_ret (v := .tuple #[.agg #[.bool (decide (M < 0)), .slice A8 (digs M.natAbs).length c8, .int .i64 E], .int .i64 0]) (by simp [results, Tryd.results10, go_sem, fr0, fr1, fr2]) rfl ?_
  
  refine ⟨A8, c8, rfl, ?_, ?_⟩
  · exact (fin3 L8.out Rr_8.out noint3 Gr).get (A := A8) (c := c8) (xs := digs M.natAbs) (by simp)
  · exact (fin3 L8.out Rr_8.out noint3 Gr).1

theorem round_yes {A : Option Addr} {c : Nat} {m x P M E : Int} {up : Bool} {w : World} (h : Dg w A c (digs m.natAbs)) (hl : (digs m.natAbs).length ≤ 10000) (r1 : Rt m x) (hT : T32 w) {p : Nat} (hP : (p : Int) = P) (p2 : 2 ≤ p) (p4 : p ≤ 400) (hs : RdOf (dv m x) p up M E) (hq : inR M E = true) :
    Calls Tryd.prog 10 #[.agg #[.bool (decide (m < 0)), .slice A (digs m.natAbs).length c, .int .i64 x], .int .i64 P, .bool up] w fun e w' => Ye M E 0 w e w' := by
  by_cases hc : bl m ≤ p
  · exact round_s_ A c m x P M E up w h hl r1 hT hP p2 p4 hs hq hc
  · exact round_b_ A c m x P M E up w h hl r1 hT hP p2 p4 hs hq (by omega)
end Go.Proofs.YtcfoepogbfngmaaDoor
end

section
/-
  dyad.Div.
-/
namespace Go.Proofs.YtcfoepogbfngmaaDoor
open Go.RowKit
set_option linter.unusedSimpArgs false
set_option linter.unusedVariables false
theorem blen_mul_lo {q n N a b : Nat} (hn : n < 2 ^ b) (hN : 2 ^ (a + b) ≤ N) (hq : N < (q + 1) * n) : 2 ^ a ≤ q := by
  rcases Nat.lt_or_ge q (2 ^ a) with h | h
  · exfalso
    have h1 : (q + 1) * n ≤ 2 ^ a * 2 ^ b := Nat.mul_le_mul h (Nat.le_of_lt hn)
    rw [← Nat.pow_add] at h1
    omega
  · exact h
theorem div_kept {m n x y : Int} {k p : Nat} {up more : Bool} (m0 : m ≠ 0) (n0 : n ≠ 0) (p1 : 1 ≤ p) (hk : p + blen n.natAbs ≤ blen m.natAbs + k) (hm : more = decide (m.natAbs * 2 ^ k % n.natAbs ≠ 0)) :
    p ≤ blen (m.natAbs * 2 ^ k / n.natAbs) ∧ RdOf (dv m x / dv n y) p up (nm (sg (decide (m < 0) != decide (n < 0)) (kept (m.natAbs * 2 ^ k / n.natAbs) p more (up != (decide (m < 0) != decide (n < 0))))))
      (nx (sg (decide (m < 0) != decide (n < 0)) (kept (m.natAbs * 2 ^ k / n.natAbs) p more (up != (decide (m < 0) != decide (n < 0))))) (x - y - k + (blen (m.natAbs * 2 ^ k / n.natAbs) - p : Nat))) := by
  have hna : 0 < n.natAbs := by omega
  have e1 : m.natAbs * 2 ^ k = m.natAbs * 2 ^ k / n.natAbs * n.natAbs + m.natAbs * 2 ^ k % n.natAbs := by
    have := Nat.div_add_mod (m.natAbs * 2 ^ k) n.natAbs
    rw [Nat.mul_comm] at this; exact this.symm
  have e2 : m.natAbs * 2 ^ k % n.natAbs < n.natAbs := Nat.mod_lt _ hna
  have hN : 2 ^ (p - 1 + blen n.natAbs) ≤ m.natAbs * 2 ^ k := by
    have ⟨a, _, c⟩ := blen_bd m.natAbs (by omega)
    refine Nat.le_trans (Nat.pow_le_pow_right (by omega) (show p - 1 + blen n.natAbs ≤ blen m.natAbs - 1 + k by omega)) ?_
    rw [Nat.pow_add]; exact Nat.mul_le_mul_right _ a
  have hb : 0 < dv (n.natAbs : Int) y := dv_pos.2 (by omega)
  have hbn : dv (n.natAbs : Int) y ≠ 0 := by grind
  have ha : dv (m.natAbs : Int) x = dv ((m.natAbs * 2 ^ k : Nat) : Int) (x - k) := by
    have := dv_pow (m.natAbs : Int) k (x - k)
    rw [show x - (k : Int) + k = x by omega] at this
    rw [← this]; congr 1
  have hrb : dv (m.natAbs : Int) x / dv (n.natAbs : Int) y * dv (n.natAbs : Int) y = dv (m.natAbs : Int) x := Rat.div_mul_cancel hbn
  have hsign : dv m x / dv n y = if (decide (m < 0) != decide (n < 0)) = true then -(dv (m.natAbs : Int) x / dv (n.natAbs : Int) y) else dv (m.natAbs : Int) x / dv (n.natAbs : Int) y := by
    have hd0 : dv n y ≠ 0 := fun h => n0 (dv_eq0.1 h)
    have key : ∀ X : Rat, X * dv n y = dv m x → dv m x / dv n y = X := fun X h => by rw [← h]; exact Rat.mul_div_cancel hd0
    apply key
    rw [dv_sign m x, dv_sign n y]
    generalize dv (m.natAbs : Int) x / dv (n.natAbs : Int) y = r at *
    generalize dv (m.natAbs : Int) x = a at *
    generalize dv (n.natAbs : Int) y = b at *
    rcases decide (m < 0) <;> rcases decide (n < 0) <;> simp <;> grind
  generalize m.natAbs * 2 ^ k / n.natAbs = Q at *
  generalize m.natAbs * 2 ^ k % n.natAbs = R at *
  have hQ : 2 ^ (p - 1) ≤ Q := by
    have ⟨_, b, _⟩ := blen_bd n.natAbs (by omega)
    refine blen_mul_lo b hN ?_
    rw [e1, Nat.add_mul, Nat.one_mul]; omega
  have hpb : p ≤ blen Q := by
    have h1 := blen_uniq (n := 2 ^ (p - 1)) (k := p - 1) (Nat.le_refl _) (Nat.pow_lt_pow_right (by omega) (by omega))
    have := blen_mono hQ
    omega
  refine ⟨hpb, ?_⟩
  rw [hsign]
  have hQb : dv (Q : Int) (x - y - k) * dv (n.natAbs : Int) y = dv ((Q * n.natAbs : Nat) : Int) (x - k) := by
    rw [dv_mul]; congr 1; omega
  have hQb1 : dv (Q + 1 : Int) (x - y - k) * dv (n.natAbs : Int) y = dv (((Q + 1) * n.natAbs : Nat) : Int) (x - k) := by
    rw [dv_mul]; congr 1; omega
  refine rd_kept hpb p1 ?_ ?_ ?_
  · refine Rat.le_of_mul_le_mul_right ?_ hb
    rw [hrb, hQb, ha, dv_le]
    exact_mod_cast (by omega : Q * n.natAbs ≤ m.natAbs * 2 ^ k)
  · refine Rat.lt_of_mul_lt_mul_right ?_ (Rat.le_of_lt hb)
    rw [hrb, hQb1, ha, dv_lt]
    have : m.natAbs * 2 ^ k < (Q + 1) * n.natAbs := by rw [e1, Nat.add_mul, Nat.one_mul]; omega
    exact_mod_cast this
  · rw [hm, decide_eq_decide]
    have h3 : dv (m.natAbs : Int) x / dv (n.natAbs : Int) y = dv (Q : Int) (x - y - k) ↔ R = 0 := by
      constructor
      · intro h
        rw [h, hQb, ha] at hrb
        have := dv_inj hrb
        have h4 : Q * n.natAbs = m.natAbs * 2 ^ k := by exact_mod_cast this
        omega
      · intro h
        have h4 : Q * n.natAbs = m.natAbs * 2 ^ k := by omega
        rw [ha, ← h4, ← hQb]
        exact Rat.mul_div_cancel hbn
    exact (not_congr h3).symm
theorem divmod_d {A B : Option Addr} {c d N n : Nat} {w : World} (h : Dg w A c (digs N)) (h' : Dg w B d (digs n)) (hl : (digs N).length ≤ 1000000) (hl' : (digs n).length ≤ 1000000) (n0 : n ≠ 0) :
    Calls Tryd.prog 32 #[.slice A (digs N).length c, .slice B (digs n).length d] w fun e w' => ∃ A' c' B' d', e = .returned (.tuple #[.slice A' (digs (N / n)).length c', .slice B' (digs (N % n)).length d', .bool true]) ∧ Dg w' A' c' (digs (N / n)) ∧ Dg w' B' d' (digs (N % n)) ∧ Below w.heap.size w w' := by
  have := divmod_any A B c d (digs N) (digs n) w h h' hl hl' (by rw [val_digs]; exact n0)
  rw [val_digs, val_digs] at this; exact this
theorem lift_n {A : Option Addr} {c q N : Nat} {k : Int} {kn : Nat} {w : World} (h : Dg w A c (digs q)) (hl : (digs q).length ≤ 500000) (hk : k = (kn : Int)) (h1 : kn ≤ 1000000) (hN : q * 2 ^ kn = N) :
    Calls Tryd.prog 33 #[.slice A (digs q).length c, .int .i64 k] w fun e w' => ∃ A' c', e = .returned (.slice A' (digs N).length c') ∧ Dg w' A' c' (digs N) ∧ Below w.heap.size w w' := by
  subst hk
  have := lift_any A c (digs q) kn w h hl h1
  rw [val_digs, hN] at this
  exact this
theorem up_len {q k : Nat} (hl : (digs q).length ≤ 10000) (hk : k ≤ 330000) : (digs (q * 2 ^ k)).length ≤ 21000 := by
  have h1 := bl_bd (m := (q : Int)) (k := 10000) (by rw [Int.natAbs_natCast]; exact hl)
  have h2 := len_bl ((q * 2 ^ k : Nat) : Int)
  rw [Int.natAbs_natCast] at h1 h2
  unfold bl at h2
  rw [Int.natAbs_natCast] at h2
  by_cases h0 : q = 0
  · subst h0; rw [Nat.zero_mul] at h2 ⊢; rw [digs_zero]; simp
  · rw [blen_up h0] at h2; omega

set_option maxHeartbeats 4000000 in
set_option maxRecDepth 100000 in
theorem div_z_ (A B : Option Addr) (c d : Nat) (m n x y : Int) (P M E : Int) (up : Bool) (w : World) (h : Dg w A c (digs m.natAbs)) (h' : Dg w B d (digs n.natAbs)) (hl : (digs m.natAbs).length ≤ 10000) (hl' : (digs n.natAbs).length ≤ 10000) (r1 : Rt m x) (r2 : Rt n y) (hT : T32 w) {p : Nat} (hP : (p : Int) = P) (p2 : 2 ≤ p) (p4 : p ≤ 400) (n0 : n ≠ 0) (hs : RdOf (dv m x / dv n y) p up M E) (hq : inR M E = true) (m0 : m = 0):
    Calls Tryd.prog 12 #[.agg #[.bool (decide (m < 0)), .slice A (digs m.natAbs).length c, .int .i64 x], .agg #[.bool (decide (n < 0)), .slice B (digs n.natAbs).length d, .int .i64 y], .int .i64 P, .bool up] w fun e w' => Ye M E 0 w e w' := by
  have HR1 := Lib.hid r1
  have HR2 := Lib.hid r2
  have lx := Lib.hid hl
  have ly := Lib.hid hl'
  have HQ := Lib.hid hq
  have x0 := r1.2.1
  have x1 := r1.2.2
  have y0 := r2.2.1
  have y1 := r2.2.2
  have LM := Lib.hid (inr_len hq)
  have HPR := Lib.hid (precB_in (P := P) (by omega) (by omega))
  have D2 := Lib.hid (show decide (n = 0) = false by simp [n0])
  have D1 := Lib.hid (show decide (m = 0) = true by simp [m0])
  obtain ⟨rfl, rfl⟩ := RdOf.uniq (M := m) (E := x) ⟨r1.1, .inl ⟨by rw [m0, dv_zero, Rat.div_def, Rat.zero_mul], m0⟩⟩ hs
  have HT := Lib.hid hT
  clear hT
  have L0 := Lib.hid (((live_start w).add h).add h')
  clear h h' hl hl' r1 r2 hs hq hP n0 m0
  go_enter Tryd.func12, Tryd.ntmps12
  go_wp2_with fail
  obtain ⟨v1, hW⟩ : ∃ W : World, W = ((((w.alloc (.cells #[.bool (decide (m < 0)), .slice A (digs m.natAbs).length c, .int .i64 x] 26)).alloc (.cells #[.bool (decide (n < 0)), .slice B (digs n.natAbs).length d, .int .i64 y] 26)).alloc (.cells #[.bool false, .slice none 0 0, .int .i64 0] 26)).alloc (.cells #[.bool (decide (m < 0)), .slice A (digs m.natAbs).length c, .int .i64 x, .bool (decide (n < 0)), .slice B (digs n.natAbs).length d, .int .i64 y] 26)) := ⟨_, rfl⟩
  rw [← hW]
  have hb : Below w.heap.size w v1 := by rw [hW]; exact (((((Below.refl _ _).alloc (by simp <;> omega) _).alloc (by simp <;> omega) _).alloc (by simp <;> omega) _).alloc (by simp <;> omega) _)
  have L1 := Lib.hid (L0.out.step hb)
  have Rx_1 := Lib.hid (show v1.heap[w.heap.size]? = some (.cells #[.bool (decide (m < 0)), .slice A (digs m.natAbs).length c, .int .i64 x] 26 (0, 0)) by rw [hW]; have := heap_alloc_new w (.cells #[.bool (decide (m < 0)), .slice A (digs m.natAbs).length c, .int .i64 x] 26); rw [heap_alloc_old _ _ (by simp <;> omega)]; rw [heap_alloc_old _ _ (by simp <;> omega)]; rw [heap_alloc_old _ _ (by simp <;> omega)]; simpa using this)
  have Gx : w.heap.size ≤ w.heap.size := by have := L0.out.1.size; omega
  have Ry_1 := Lib.hid (show v1.heap[w.heap.size + 1]? = some (.cells #[.bool (decide (n < 0)), .slice B (digs n.natAbs).length d, .int .i64 y] 26 (0, 0)) by rw [hW]; have := heap_alloc_new (w.alloc (.cells #[.bool (decide (m < 0)), .slice A (digs m.natAbs).length c, .int .i64 x] 26)) (.cells #[.bool (decide (n < 0)), .slice B (digs n.natAbs).length d, .int .i64 y] 26); rw [heap_alloc_old _ _ (by simp <;> omega)]; rw [heap_alloc_old _ _ (by simp <;> omega)]; simpa using this)
  have Gy : w.heap.size ≤ w.heap.size + 1 := by have := L0.out.1.size; omega
  have Nxy : w.heap.size < w.heap.size + 1 := by omega
  have Rr_1 := Lib.hid (show v1.heap[w.heap.size + 1 + 1]? = some (.cells #[.bool false, .slice none 0 0, .int .i64 0] 26 (0, 0)) by rw [hW]; have := heap_alloc_new ((w.alloc (.cells #[.bool (decide (m < 0)), .slice A (digs m.natAbs).length c, .int .i64 x] 26)).alloc (.cells #[.bool (decide (n < 0)), .slice B (digs n.natAbs).length d, .int .i64 y] 26)) (.cells #[.bool false, .slice none 0 0, .int .i64 0] 26); rw [heap_alloc_old _ _ (by simp <;> omega)]; simpa using this)
  have Gr : w.heap.size ≤ w.heap.size + 1 + 1 := by have := L0.out.1.size; omega
  have Nxr : w.heap.size < w.heap.size + 1 + 1 := by omega
  have Nyr : w.heap.size + 1 < w.heap.size + 1 + 1 := by omega
  have Rsl_1 := Lib.hid (show v1.heap[w.heap.size + 1 + 1 + 1]? = some (.cells #[.bool (decide (m < 0)), .slice A (digs m.natAbs).length c, .int .i64 x, .bool (decide (n < 0)), .slice B (digs n.natAbs).length d, .int .i64 y] 26 (0, 0)) by rw [hW]; have := heap_alloc_new (((w.alloc (.cells #[.bool (decide (m < 0)), .slice A (digs m.natAbs).length c, .int .i64 x] 26)).alloc (.cells #[.bool (decide (n < 0)), .slice B (digs n.natAbs).length d, .int .i64 y] 26)).alloc (.cells #[.bool false, .slice none 0 0, .int .i64 0] 26)) (.cells #[.bool (decide (m < 0)), .slice A (digs m.natAbs).length c, .int .i64 x, .bool (decide (n < 0)), .slice B (digs n.natAbs).length d, .int .i64 y] 26); simpa using this)
  have Gsl : w.heap.size ≤ w.heap.size + 1 + 1 + 1 := by have := L0.out.1.size; omega
  have Nxsl : w.heap.size < w.heap.size + 1 + 1 + 1 := by omega
  have Nysl : w.heap.size + 1 < w.heap.size + 1 + 1 + 1 := by omega
  have Nrsl : w.heap.size + 1 + 1 < w.heap.size + 1 + 1 + 1 := by omega
  clear hW hb
  refine (begin_2 Rsl_1.out (L1.out.get (A := A) (c := c) (xs := digs m.natAbs) (by simp)) (L1.out.get (A := B) (c := d) (xs := digs n.natAbs) (by simp)) (dyR_num HR1.out) (dyR_num HR2.out) (Nat.le_trans lx.out (by omega)) (Nat.le_trans ly.out (by omega)) (k := 0) rfl).mono ?_
  rintro e w2 ⟨rfl, hb⟩
  have L2 := Lib.hid (L1.out.step hb)
  have Rx_2 := Lib.hid (cells_of Rx_1.out hb)
  have Ry_2 := Lib.hid (cells_of Ry_1.out hb)
  have Rr_2 := Lib.hid (cells_of Rr_1.out hb)
  have Rsl_2 := Lib.hid (cells_of Rsl_1.out hb)
  clear hb 
  go_wp2_with fail
  obtain ⟨w3, hW⟩ : ∃ W : World, W = (w2.alloc (.cells #[.int .i64 0] 48)) := ⟨_, rfl⟩
  rw [← hW]
  have hb : Below w2.heap.size w2 w3 := by rw [hW]; exact ((Below.refl _ _).alloc (by simp <;> omega) _)
  have L3 := Lib.hid (L2.out.step hb)
  have Rx_3 := Lib.hid (cells_of Rx_2.out hb)
  have Ry_3 := Lib.hid (cells_of Ry_2.out hb)
  have Rr_3 := Lib.hid (cells_of Rr_2.out hb)
  have Rsl_3 := Lib.hid (cells_of Rsl_2.out hb)
  have Rk_3 := Lib.hid (show w3.heap[w2.heap.size]? = some (.cells #[.int .i64 0] 48 (0, 0)) by rw [hW]; have := heap_alloc_new w2 (.cells #[.int .i64 0] 48); simpa using this)
  have Gk : w.heap.size ≤ w2.heap.size := by have := L2.out.1.size; omega
  have Nxk : w.heap.size < w2.heap.size := by have := heap_lt Rx_2.out; omega
  have Nyk : w.heap.size + 1 < w2.heap.size := by have := heap_lt Ry_2.out; omega
  have Nrk : w.heap.size + 1 + 1 < w2.heap.size := by have := heap_lt Rr_2.out; omega
  have Nslk : w.heap.size + 1 + 1 + 1 < w2.heap.size := by have := heap_lt Rsl_2.out; omega
  clear hW hb
  refine (precision_no _ 0 P _ (row_c Rk_3.out (i := 0) rfl) (.inl HPR.out)).mono ?_
  rintro e w4 ⟨rfl, rfl⟩
  have fy0 := row_c (i := 0) Ry_3.out rfl
  have zy0 := frozen_of_row _ _ 0 _ _ Ry_3.out
  have fy1 := row_c (i := 1) Ry_3.out rfl
  have zy1 := frozen_of_row _ _ 1 _ _ Ry_3.out
  have fy2 := row_c (i := 2) Ry_3.out rfl
  have zy2 := frozen_of_row _ _ 2 _ _ Ry_3.out
  have xy := heap_lt Ry_3.out
  go_wp2_with fail
  refine (isz_d (x := y) D2.out).mono ?_
  rintro e w5 ⟨rfl, hb⟩
  have L5 := Lib.hid (L3.out.step hb)
  clear fy0 zy0 fy1 zy1 fy2 zy2 xy
  have Rx_5 := Lib.hid (cells_of Rx_3.out hb)
  have Ry_5 := Lib.hid (cells_of Ry_3.out hb)
  have Rr_5 := Lib.hid (cells_of Rr_3.out hb)
  have Rsl_5 := Lib.hid (cells_of Rsl_3.out hb)
  have Rk_5 := Lib.hid (cells_of Rk_3.out hb)
  clear hb 
  go_wp2_with fail
  refine (tell_no _ 0 3 false _ (row_c Rk_5.out (i := 0) rfl) (.inl rfl)).mono ?_
  rintro e w6 ⟨rfl, rfl⟩
  go_wp2_with fail
  refine (fails_any _ 0 false _ (row_c Rk_5.out (i := 0) rfl) rfl).mono ?_
  rintro e w7 ⟨rfl, rfl⟩
  have fx0 := row_c (i := 0) Rx_5.out rfl
  have zx0 := frozen_of_row _ _ 0 _ _ Rx_5.out
  have fx1 := row_c (i := 1) Rx_5.out rfl
  have zx1 := frozen_of_row _ _ 1 _ _ Rx_5.out
  have fx2 := row_c (i := 2) Rx_5.out rfl
  have zx2 := frozen_of_row _ _ 2 _ _ Rx_5.out
  have xx := heap_lt Rx_5.out
  go_wp2_with fail
  refine (isz_d (x := x) D1.out).mono ?_
  rintro e w8 ⟨rfl, hb⟩
  have L8 := Lib.hid (L5.out.step hb)
  clear fx0 zx0 fx1 zx1 fx2 zx2 xx
  have Rx_8 := Lib.hid (cells_of Rx_5.out hb)
  have Ry_8 := Lib.hid (cells_of Ry_5.out hb)
  have Rr_8 := Lib.hid (cells_of Rr_5.out hb)
  have Rsl_8 := Lib.hid (cells_of Rsl_5.out hb)
  have Rk_8 := Lib.hid (cells_of Rk_5.out hb)
  clear hb 
  have fx0 := row_c (i := 0) Rx_8.out rfl
  have zx0 := frozen_of_row _ _ 0 _ _ Rx_8.out
  have fx1 := row_c (i := 1) Rx_8.out rfl
  have zx1 := frozen_of_row _ _ 1 _ _ Rx_8.out
  have fx2 := row_c (i := 2) Rx_8.out rfl
  have zx2 := frozen_of_row _ _ 2 _ _ Rx_8.out
  have xx := heap_lt Rx_8.out
  go_wp2_with fail
  refine (answer_d (row_c Rk_8.out (i := 0) rfl) (heap_lt Rk_8.out) (L8.out.get (A := A) (c := c) (xs := digs m.natAbs) (by simp)) (Nat.le_trans LM.out (by omega)) HQ.out).mono ?_
  rintro e w9 ⟨A9, c9, rfl, hd, hb⟩
  have L9 := Lib.hid ((L8.out.step hb).add hd)
  clear fx0 zx0 fx1 zx1 fx2 zx2 xx
  have Rx_9 := Lib.hid (cells_of Rx_8.out hb)
  have Ry_9 := Lib.hid (cells_of Ry_8.out hb)
  have Rr_9 := Lib.hid (cells_of Rr_8.out hb)
  have Rsl_9 := Lib.hid (cells_of Rsl_8.out hb)
  have Rk_9 := Lib.hid (cells_of Rk_8.out hb)
  clear hb hd
  have fr0 := row_c (i := 0) Rr_9.out rfl
  have zr0 := frozen_of_row _ _ 0 _ _ Rr_9.out
  have fr1 := row_c (i := 1) Rr_9.out rfl
  have zr1 := frozen_of_row _ _ 1 _ _ Rr_9.out
  have fr2 := row_c (i := 2) Rr_9.out rfl
  have zr2 := frozen_of_row _ _ 2 _ _ Rr_9.out
  have xr := heap_lt Rr_9.out
  go_wp2
  refine bodyPost_ret (v := .tuple #[.agg #[.bool (decide (m < 0)), .slice A9 (digs m.natAbs).length c9, .int .i64 x], .int .i64 0]) (by simp [results, Tryd.results12, go_sem, fr0, fr1, fr2]) rfl ?_
  
  refine ⟨A9, c9, rfl, ?_, ?_⟩
  · exact (fin3 L9.out Rr_9.out noint3 Gr).get (A := A9) (c := c9) (xs := digs m.natAbs) (by simp)
  · exact (fin3 L9.out Rr_9.out noint3 Gr).1

set_option maxHeartbeats 4000000 in
set_option maxRecDepth 100000 in
theorem div_b_ (A B : Option Addr) (c d : Nat) (m n x y : Int) (P M E : Int) (up : Bool) (w : World) (h : Dg w A c (digs m.natAbs)) (h' : Dg w B d (digs n.natAbs)) (hl : (digs m.natAbs).length ≤ 10000) (hl' : (digs n.natAbs).length ≤ 10000) (r1 : Rt m x) (r2 : Rt n y) (hT : T32 w) {p : Nat} (hP : (p : Int) = P) (p2 : 2 ≤ p) (p4 : p ≤ 400) (n0 : n ≠ 0) (hs : RdOf (dv m x / dv n y) p up M E) (hq : inR M E = true) (m0 : m ≠ 0):
    Calls Tryd.prog 12 #[.agg #[.bool (decide (m < 0)), .slice A (digs m.natAbs).length c, .int .i64 x], .agg #[.bool (decide (n < 0)), .slice B (digs n.natAbs).length d, .int .i64 y], .int .i64 P, .bool up] w fun e w' => Ye M E 0 w e w' := by
  have HR1 := Lib.hid r1
  have HR2 := Lib.hid r2
  have lx := Lib.hid hl
  have ly := Lib.hid hl'
  have HQ := Lib.hid hq
  have x0 := r1.2.1
  have x1 := r1.2.2
  have y0 := r2.2.1
  have y1 := r2.2.2
  have LM := Lib.hid (inr_len hq)
  have HPR := Lib.hid (precB_in (P := P) (by omega) (by omega))
  have D2 := Lib.hid (show decide (n = 0) = false by simp [n0])
  have D1 := Lib.hid (show decide (m = 0) = false by simp [m0])
  have b1 := bl_bd hl
  have b2 := bl_bd hl'
  obtain ⟨z1, hz1⟩ : ∃ z : Int, (blen m.natAbs : Int) = z := ⟨_, rfl⟩
  obtain ⟨z2, hz2⟩ : ∃ z : Int, (blen n.natAbs : Int) = z := ⟨_, rfl⟩
  obtain ⟨kn, hkn⟩ : ∃ k : Nat, k = (max 0 (P + z2 - z1)).toNat := ⟨_, rfl⟩
  obtain ⟨k, hk⟩ : ∃ k : Int, max 0 (P + z2 - z1) = k := ⟨_, rfl⟩
  have hkk : k = (kn : Int) := by omega
  have hkb : kn ≤ 330000 := by omega
  have hkp : p + blen n.natAbs ≤ blen m.natAbs + kn := by omega
  have hlN := up_len (q := m.natAbs) hl hkb
  obtain ⟨t, ht⟩ : ∃ t, (decide (m < 0) != decide (n < 0)) = t := ⟨_, rfl⟩
  obtain ⟨mo, hmo⟩ : ∃ t, decide (m.natAbs * 2 ^ kn % n.natAbs ≠ 0) = t := ⟨_, rfl⟩
  have hkept := div_kept (m := m) (n := n) (x := x) (y := y) (k := kn) (p := p) (up := up) (more := mo) m0 n0 (by omega) hkp hmo.symm
  rw [ht] at hkept
  have hu := RdOf.uniq hkept.2 hs
  have HB := Lib.hid hkept.1
  obtain ⟨N, hN⟩ : ∃ N, m.natAbs * 2 ^ kn = N := ⟨_, rfl⟩
  rw [hN] at hlN hu HB hmo
  have hlQ := digs_len_mono _ _ (Nat.div_le_self N n.natAbs)
  have HMO := Lib.hid (show decide (0 < (digs (N % n.natAbs)).length) = mo by rw [← hmo, decide_eq_decide]; have := @digs_nil (N % n.natAbs); omega)
  obtain ⟨Q, hQ⟩ : ∃ Q, N / n.natAbs = Q := ⟨_, rfl⟩
  obtain ⟨R, hR⟩ : ∃ R, N % n.natAbs = R := ⟨_, rfl⟩
  rw [hQ] at hu HB hlQ
  rw [hR] at HMO
  have DM := Lib.hid (fun (A B : Option Addr) (c d : Nat) W (h : Dg W A c (digs N)) (h' : Dg W B d (digs n.natAbs)) => divmod_d h h' (by omega) (by omega) (by omega))
  rw [hQ, hR] at DM
  have HM := Lib.hid hu.1
  have HE := Lib.hid (show nx (sg t (kept Q p mo (up != t))) (x - y - k + (blen Q - p : Nat)) = E by rw [hkk]; exact hu.2)
  have HN := Lib.hid hN
  have HKK := Lib.hid hkk
  have HKB := Lib.hid (show kn ≤ 1000000 by omega)
  have HP2 := Lib.hid hP
  have HZ1 := Lib.hid hz1
  have HZ2 := Lib.hid hz2
  have LQ := Lib.hid (show (digs Q).length ≤ 30000 by omega)
  have LN := Lib.hid hlN
  obtain ⟨s1, hs1⟩ : ∃ s, P + z2 = s := ⟨_, rfl⟩
  obtain ⟨s2, hs2⟩ : ∃ s, s1 - z1 = s := ⟨_, rfl⟩
  have ws1 : IntKind.i64.wrap (P + z2) = s1 := by rw [IntWalk.i64_in _ (by omega)]; exact hs1
  have ws2 : IntKind.i64.wrap (s1 - z1) = s2 := by rw [IntWalk.i64_in _ (by omega)]; exact hs2
  have hmax : max 0 s2 = k := by rw [← hk, ← hs2, ← hs1]
  have k0 : 0 ≤ k := by omega
  have k9 : k ≤ 330000 := by omega
  have HT2 := Lib.hid ht
  have HT := Lib.hid hT
  clear hT
  have L0 := Lib.hid (((live_start w).add h).add h')
  clear h h' hl hl' r1 r2 hs hq hP n0 m0 hz1 hz2 hkn hk hkk hkb hkp hlN ht hmo hkept hu hN hlQ hQ hR hs1 hs2 b1 b2
  go_enter Tryd.func12, Tryd.ntmps12
  go_wp2_with fail
  obtain ⟨v1, hW⟩ : ∃ W : World, W = ((((w.alloc (.cells #[.bool (decide (m < 0)), .slice A (digs m.natAbs).length c, .int .i64 x] 26)).alloc (.cells #[.bool (decide (n < 0)), .slice B (digs n.natAbs).length d, .int .i64 y] 26)).alloc (.cells #[.bool false, .slice none 0 0, .int .i64 0] 26)).alloc (.cells #[.bool (decide (m < 0)), .slice A (digs m.natAbs).length c, .int .i64 x, .bool (decide (n < 0)), .slice B (digs n.natAbs).length d, .int .i64 y] 26)) := ⟨_, rfl⟩
  rw [← hW]
  have hb : Below w.heap.size w v1 := by rw [hW]; exact (((((Below.refl _ _).alloc (by simp <;> omega) _).alloc (by simp <;> omega) _).alloc (by simp <;> omega) _).alloc (by simp <;> omega) _)
  have L1 := Lib.hid (L0.out.step hb)
  have Rx_1 := Lib.hid (show v1.heap[w.heap.size]? = some (.cells #[.bool (decide (m < 0)), .slice A (digs m.natAbs).length c, .int .i64 x] 26 (0, 0)) by rw [hW]; have := heap_alloc_new w (.cells #[.bool (decide (m < 0)), .slice A (digs m.natAbs).length c, .int .i64 x] 26); rw [heap_alloc_old _ _ (by simp <;> omega)]; rw [heap_alloc_old _ _ (by simp <;> omega)]; rw [heap_alloc_old _ _ (by simp <;> omega)]; simpa using this)
  have Gx : w.heap.size ≤ w.heap.size := by have := L0.out.1.size; omega
  have Ry_1 := Lib.hid (show v1.heap[w.heap.size + 1]? = some (.cells #[.bool (decide (n < 0)), .slice B (digs n.natAbs).length d, .int .i64 y] 26 (0, 0)) by rw [hW]; have := heap_alloc_new (w.alloc (.cells #[.bool (decide (m < 0)), .slice A (digs m.natAbs).length c, .int .i64 x] 26)) (.cells #[.bool (decide (n < 0)), .slice B (digs n.natAbs).length d, .int .i64 y] 26); rw [heap_alloc_old _ _ (by simp <;> omega)]; rw [heap_alloc_old _ _ (by simp <;> omega)]; simpa using this)
  have Gy : w.heap.size ≤ w.heap.size + 1 := by have := L0.out.1.size; omega
  have Nxy : w.heap.size < w.heap.size + 1 := by omega
  have Rr_1 := Lib.hid (show v1.heap[w.heap.size + 1 + 1]? = some (.cells #[.bool false, .slice none 0 0, .int .i64 0] 26 (0, 0)) by rw [hW]; have := heap_alloc_new ((w.alloc (.cells #[.bool (decide (m < 0)), .slice A (digs m.natAbs).length c, .int .i64 x] 26)).alloc (.cells #[.bool (decide (n < 0)), .slice B (digs n.natAbs).length d, .int .i64 y] 26)) (.cells #[.bool false, .slice none 0 0, .int .i64 0] 26); rw [heap_alloc_old _ _ (by simp <;> omega)]; simpa using this)
  have Gr : w.heap.size ≤ w.heap.size + 1 + 1 := by have := L0.out.1.size; omega
  have Nxr : w.heap.size < w.heap.size + 1 + 1 := by omega
  have Nyr : w.heap.size + 1 < w.heap.size + 1 + 1 := by omega
  have Rsl_1 := Lib.hid (show v1.heap[w.heap.size + 1 + 1 + 1]? = some (.cells #[.bool (decide (m < 0)), .slice A (digs m.natAbs).length c, .int .i64 x, .bool (decide (n < 0)), .slice B (digs n.natAbs).length d, .int .i64 y] 26 (0, 0)) by rw [hW]; have := heap_alloc_new (((w.alloc (.cells #[.bool (decide (m < 0)), .slice A (digs m.natAbs).length c, .int .i64 x] 26)).alloc (.cells #[.bool (decide (n < 0)), .slice B (digs n.natAbs).length d, .int .i64 y] 26)).alloc (.cells #[.bool false, .slice none 0 0, .int .i64 0] 26)) (.cells #[.bool (decide (m < 0)), .slice A (digs m.natAbs).length c, .int .i64 x, .bool (decide (n < 0)), .slice B (digs n.natAbs).length d, .int .i64 y] 26); simpa using this)
  have Gsl : w.heap.size ≤ w.heap.size + 1 + 1 + 1 := by have := L0.out.1.size; omega
  have Nxsl : w.heap.size < w.heap.size + 1 + 1 + 1 := by omega
  have Nysl : w.heap.size + 1 < w.heap.size + 1 + 1 + 1 := by omega
  have Nrsl : w.heap.size + 1 + 1 < w.heap.size + 1 + 1 + 1 := by omega
  clear hW hb
  refine (begin_2 Rsl_1.out (L1.out.get (A := A) (c := c) (xs := digs m.natAbs) (by simp)) (L1.out.get (A := B) (c := d) (xs := digs n.natAbs) (by simp)) (dyR_num HR1.out) (dyR_num HR2.out) (Nat.le_trans lx.out (by omega)) (Nat.le_trans ly.out (by omega)) (k := 0) rfl).mono ?_
  rintro e w2 ⟨rfl, hb⟩
  have L2 := Lib.hid (L1.out.step hb)
  have Rx_2 := Lib.hid (cells_of Rx_1.out hb)
  have Ry_2 := Lib.hid (cells_of Ry_1.out hb)
  have Rr_2 := Lib.hid (cells_of Rr_1.out hb)
  have Rsl_2 := Lib.hid (cells_of Rsl_1.out hb)
  clear hb 
  go_wp2_with fail
  obtain ⟨w3, hW⟩ : ∃ W : World, W = (w2.alloc (.cells #[.int .i64 0] 48)) := ⟨_, rfl⟩
  rw [← hW]
  have hb : Below w2.heap.size w2 w3 := by rw [hW]; exact ((Below.refl _ _).alloc (by simp <;> omega) _)
  have L3 := Lib.hid (L2.out.step hb)
  have Rx_3 := Lib.hid (cells_of Rx_2.out hb)
  have Ry_3 := Lib.hid (cells_of Ry_2.out hb)
  have Rr_3 := Lib.hid (cells_of Rr_2.out hb)
  have Rsl_3 := Lib.hid (cells_of Rsl_2.out hb)
  have Rk_3 := Lib.hid (show w3.heap[w2.heap.size]? = some (.cells #[.int .i64 0] 48 (0, 0)) by rw [hW]; have := heap_alloc_new w2 (.cells #[.int .i64 0] 48); simpa using this)
  have Gk : w.heap.size ≤ w2.heap.size := by have := L2.out.1.size; omega
  have Nxk : w.heap.size < w2.heap.size := by have := heap_lt Rx_2.out; omega
  have Nyk : w.heap.size + 1 < w2.heap.size := by have := heap_lt Ry_2.out; omega
  have Nrk : w.heap.size + 1 + 1 < w2.heap.size := by have := heap_lt Rr_2.out; omega
  have Nslk : w.heap.size + 1 + 1 + 1 < w2.heap.size := by have := heap_lt Rsl_2.out; omega
  clear hW hb
  refine (precision_no _ 0 P _ (row_c Rk_3.out (i := 0) rfl) (.inl HPR.out)).mono ?_
  rintro e w4 ⟨rfl, rfl⟩
  have fy0 := row_c (i := 0) Ry_3.out rfl
  have zy0 := frozen_of_row _ _ 0 _ _ Ry_3.out
  have fy1 := row_c (i := 1) Ry_3.out rfl
  have zy1 := frozen_of_row _ _ 1 _ _ Ry_3.out
  have fy2 := row_c (i := 2) Ry_3.out rfl
  have zy2 := frozen_of_row _ _ 2 _ _ Ry_3.out
  have xy := heap_lt Ry_3.out
  go_wp2_with fail
  refine (isz_d (x := y) D2.out).mono ?_
  rintro e w5 ⟨rfl, hb⟩
  have L5 := Lib.hid (L3.out.step hb)
  clear fy0 zy0 fy1 zy1 fy2 zy2 xy
  have Rx_5 := Lib.hid (cells_of Rx_3.out hb)
  have Ry_5 := Lib.hid (cells_of Ry_3.out hb)
  have Rr_5 := Lib.hid (cells_of Rr_3.out hb)
  have Rsl_5 := Lib.hid (cells_of Rsl_3.out hb)
  have Rk_5 := Lib.hid (cells_of Rk_3.out hb)
  clear hb 
  go_wp2_with fail
  refine (tell_no _ 0 3 false _ (row_c Rk_5.out (i := 0) rfl) (.inl rfl)).mono ?_
  rintro e w6 ⟨rfl, rfl⟩
  go_wp2_with fail
  refine (fails_any _ 0 false _ (row_c Rk_5.out (i := 0) rfl) rfl).mono ?_
  rintro e w7 ⟨rfl, rfl⟩
  have fx0 := row_c (i := 0) Rx_5.out rfl
  have zx0 := frozen_of_row _ _ 0 _ _ Rx_5.out
  have fx1 := row_c (i := 1) Rx_5.out rfl
  have zx1 := frozen_of_row _ _ 1 _ _ Rx_5.out
  have fx2 := row_c (i := 2) Rx_5.out rfl
  have zx2 := frozen_of_row _ _ 2 _ _ Rx_5.out
  have xx := heap_lt Rx_5.out
  go_wp2_with fail
  refine (isz_d (x := x) D1.out).mono ?_
  rintro e w8 ⟨rfl, hb⟩
  have L8 := Lib.hid (L5.out.step hb)
  clear fx0 zx0 fx1 zx1 fx2 zx2 xx
  have Rx_8 := Lib.hid (cells_of Rx_5.out hb)
  have Ry_8 := Lib.hid (cells_of Ry_5.out hb)
  have Rr_8 := Lib.hid (cells_of Rr_5.out hb)
  have Rsl_8 := Lib.hid (cells_of Rsl_5.out hb)
  have Rk_8 := Lib.hid (cells_of Rk_5.out hb)
  clear hb 
  have fx0 := row_c (i := 0) Rx_8.out rfl
  have zx0 := frozen_of_row _ _ 0 _ _ Rx_8.out
  have fx1 := row_c (i := 1) Rx_8.out rfl
  have zx1 := frozen_of_row _ _ 1 _ _ Rx_8.out
  have fx2 := row_c (i := 2) Rx_8.out rfl
  have zx2 := frozen_of_row _ _ 2 _ _ Rx_8.out
  have xx := heap_lt Rx_8.out
  have fy0 := row_c (i := 0) Ry_8.out rfl
  have zy0 := frozen_of_row _ _ 0 _ _ Ry_8.out
  have fy1 := row_c (i := 1) Ry_8.out rfl
  have zy1 := frozen_of_row _ _ 1 _ _ Ry_8.out
  have fy2 := row_c (i := 2) Ry_8.out rfl
  have zy2 := frozen_of_row _ _ 2 _ _ Ry_8.out
  have xy := heap_lt Ry_8.out
  go_wp2_with fail
  clear fx0 zx0 fx1 zx1 fx2 zx2 xx fy0 zy0 fy1 zy1 fy2 zy2 xy
  have fx0 := row_c (i := 0) Rx_8.out rfl
  have zx0 := frozen_of_row _ _ 0 _ _ Rx_8.out
  have fx1 := row_c (i := 1) Rx_8.out rfl
  have zx1 := frozen_of_row _ _ 1 _ _ Rx_8.out
  have fx2 := row_c (i := 2) Rx_8.out rfl
  have zx2 := frozen_of_row _ _ 2 _ _ Rx_8.out
  have xx := heap_lt Rx_8.out
  have fy0 := row_c (i := 0) Ry_8.out rfl
  have zy0 := frozen_of_row _ _ 0 _ _ Ry_8.out
  have fy1 := row_c (i := 1) Ry_8.out rfl
  have zy1 := frozen_of_row _ _ 1 _ _ Ry_8.out
  have fy2 := row_c (i := 2) Ry_8.out rfl
  have zy2 := frozen_of_row _ _ 2 _ _ Ry_8.out
  have xy := heap_lt Ry_8.out
  have KD := Lib.hid (bd0 w8)
  have LD := Lib.hid (L8.out.step KD.out)
  go_region_held3 (fun w' => ∀ b o, b < w8.heap.size → w'.cell? ⟨b, o, none⟩ = w8.cell? ⟨b, o, none⟩)
    (first | with_reducible exact (bcell KD.out).1)
    (first
      | (go_at_call_of 27 B; (with_reducible refine (bits_b (LD.out.get (A := B) (c := d) (xs := digs n.natAbs) (by simp)) (Nat.le_trans ly.out (by omega)) HZ2.out).mono ?_); rintro e w10 ⟨rfl, rfl⟩)
      | (go_at_call_of 27 A; (with_reducible refine (bits_b (LD.out.get (A := A) (c := c) (xs := digs m.natAbs) (by simp)) (Nat.le_trans lx.out (by omega)) HZ1.out).mono ?_); rintro e w11 ⟨rfl, rfl⟩))
  rename_i hHeld
  clear hHeld
  clear fx0 zx0 fx1 zx1 fx2 zx2 xx fy0 zy0 fy1 zy1 fy2 zy2 xy
  clear KD LD
  obtain ⟨w12, hW⟩ : ∃ W : World, W = w8.drew := ⟨_, rfl⟩
  rw [← hW]
  have hb : Below w8.heap.size w8 w12 := by rw [hW]; exact bd0 _
  have L12 := Lib.hid (L8.out.step hb)
  have Rx_12 := Lib.hid (cells_of Rx_8.out hb)
  have Ry_12 := Lib.hid (cells_of Ry_8.out hb)
  have Rr_12 := Lib.hid (cells_of Rr_8.out hb)
  have Rsl_12 := Lib.hid (cells_of Rsl_8.out hb)
  have Rk_12 := Lib.hid (cells_of Rk_8.out hb)
  clear hW hb
  clear ws1 ws2 hmax
  have fx0 := row_c (i := 0) Rx_12.out rfl
  have zx0 := frozen_of_row _ _ 0 _ _ Rx_12.out
  have fx1 := row_c (i := 1) Rx_12.out rfl
  have zx1 := frozen_of_row _ _ 1 _ _ Rx_12.out
  have fx2 := row_c (i := 2) Rx_12.out rfl
  have zx2 := frozen_of_row _ _ 2 _ _ Rx_12.out
  have xx := heap_lt Rx_12.out
  have fy0 := row_c (i := 0) Ry_12.out rfl
  have zy0 := frozen_of_row _ _ 0 _ _ Ry_12.out
  have fy1 := row_c (i := 1) Ry_12.out rfl
  have zy1 := frozen_of_row _ _ 1 _ _ Ry_12.out
  have fy2 := row_c (i := 2) Ry_12.out rfl
  have zy2 := frozen_of_row _ _ 2 _ _ Ry_12.out
  have xy := heap_lt Ry_12.out
  go_wp2_with fail
  clear fx0 zx0 fx1 zx1 fx2 zx2 xx fy0 zy0 fy1 zy1 fy2 zy2 xy
  have fx0 := row_c (i := 0) Rx_12.out rfl
  have zx0 := frozen_of_row _ _ 0 _ _ Rx_12.out
  have fx1 := row_c (i := 1) Rx_12.out rfl
  have zx1 := frozen_of_row _ _ 1 _ _ Rx_12.out
  have fx2 := row_c (i := 2) Rx_12.out rfl
  have zx2 := frozen_of_row _ _ 2 _ _ Rx_12.out
  have xx := heap_lt Rx_12.out
  have fy0 := row_c (i := 0) Ry_12.out rfl
  have zy0 := frozen_of_row _ _ 0 _ _ Ry_12.out
  have fy1 := row_c (i := 1) Ry_12.out rfl
  have zy1 := frozen_of_row _ _ 1 _ _ Ry_12.out
  have fy2 := row_c (i := 2) Ry_12.out rfl
  have zy2 := frozen_of_row _ _ 2 _ _ Ry_12.out
  have xy := heap_lt Ry_12.out
  have KD := Lib.hid (bd0 w12)
  have LD := Lib.hid (L12.out.step KD.out)
  go_region_held3 (fun w' => ∀ b o, b < w12.heap.size → w'.cell? ⟨b, o, none⟩ = w12.cell? ⟨b, o, none⟩)
    (first | with_reducible exact (bcell KD.out).1 | with_reducible exact (bcell K14.out).1 | with_reducible exact (bcell K15.out).1)
    (first
      | (go_at_call 33; (with_reducible refine (lift_n (N := N) (LD.out.get (A := A) (c := c) (xs := digs m.natAbs) (by simp)) (Nat.le_trans lx.out (by omega)) HKK.out HKB.out HN.out).mono ?_); rintro e w14 ⟨A14, c14, rfl, hd, hb⟩; (have K14 := Lib.hid (KD.out.trans (hb.mono KD.out.size))); (have L14 := Lib.hid ((LD.out.step hb).add hd)); clear hb hd)
      | (go_at_call 32; (with_reducible refine (DM.out _ _ _ _ _ (L14.out.get (A := A14) (c := c14) (xs := digs N) (by simp)) (L14.out.get (A := B) (c := d) (xs := digs n.natAbs) (by simp))).mono ?_); rintro e w15 ⟨A15, c15, B15, d15, rfl, hd, hd', hb⟩; (have K15 := Lib.hid (K14.out.trans (hb.mono K14.out.size))); (have L15 := Lib.hid (((L14.out.step hb).add hd).add hd')); clear hb hd hd'))
  rename_i hHeld
  clear hHeld
  clear fx0 zx0 fx1 zx1 fx2 zx2 xx fy0 zy0 fy1 zy1 fy2 zy2 xy
  have Rx_15 := Lib.hid (cells_of Rx_12.out K15.out)
  have Ry_15 := Lib.hid (cells_of Ry_12.out K15.out)
  have Rr_15 := Lib.hid (cells_of Rr_12.out K15.out)
  have Rsl_15 := Lib.hid (cells_of Rsl_12.out K15.out)
  have Rk_15 := Lib.hid (cells_of Rk_12.out K15.out)
  clear KD LD
  have HT3 : (!(decide (m < 0) == decide (n < 0))) = t := HT2.out
  have HMO2 := HMO.out
  have fx0 := row_c (i := 0) Rx_15.out rfl
  have zx0 := frozen_of_row _ _ 0 _ _ Rx_15.out
  have fx1 := row_c (i := 1) Rx_15.out rfl
  have zx1 := frozen_of_row _ _ 1 _ _ Rx_15.out
  have fx2 := row_c (i := 2) Rx_15.out rfl
  have zx2 := frozen_of_row _ _ 2 _ _ Rx_15.out
  have xx := heap_lt Rx_15.out
  have fy0 := row_c (i := 0) Ry_15.out rfl
  have zy0 := frozen_of_row _ _ 0 _ _ Ry_15.out
  have fy1 := row_c (i := 1) Ry_15.out rfl
  have zy1 := frozen_of_row _ _ 1 _ _ Ry_15.out
  have fy2 := row_c (i := 2) Ry_15.out rfl
  have zy2 := frozen_of_row _ _ 2 _ _ Ry_15.out
  have xy := heap_lt Ry_15.out
  go_wp2_with fail
  obtain ⟨w16, hW⟩ : ∃ W : World, W = (w15.alloc (.cells #[.bool t, .slice A15 (digs Q).length c15, .int .i64 (x - y - k)] 26)) := ⟨_, rfl⟩
  rw [← hW]
  have hb : Below w15.heap.size w15 w16 := by rw [hW]; exact ((Below.refl _ _).alloc (by simp <;> omega) _)
  have L16 := Lib.hid (L15.out.step hb)
  have Rx_16 := Lib.hid (cells_of Rx_15.out hb)
  have Ry_16 := Lib.hid (cells_of Ry_15.out hb)
  have Rr_16 := Lib.hid (cells_of Rr_15.out hb)
  have Rsl_16 := Lib.hid (cells_of Rsl_15.out hb)
  have Rk_16 := Lib.hid (cells_of Rk_15.out hb)
  have Rq_16 := Lib.hid (show w16.heap[w15.heap.size]? = some (.cells #[.bool t, .slice A15 (digs Q).length c15, .int .i64 (x - y - k)] 26 (0, 0)) by rw [hW]; have := heap_alloc_new w15 (.cells #[.bool t, .slice A15 (digs Q).length c15, .int .i64 (x - y - k)] 26); simpa using this)
  have Gq : w.heap.size ≤ w15.heap.size := by have := L15.out.1.size; omega
  have Nxq : w.heap.size < w15.heap.size := by have := heap_lt Rx_15.out; omega
  have Nyq : w.heap.size + 1 < w15.heap.size := by have := heap_lt Ry_15.out; omega
  have Nrq : w.heap.size + 1 + 1 < w15.heap.size := by have := heap_lt Rr_15.out; omega
  have Nslq : w.heap.size + 1 + 1 + 1 < w15.heap.size := by have := heap_lt Rsl_15.out; omega
  have Nkq : w2.heap.size < w15.heap.size := by have := heap_lt Rk_15.out; omega
  clear hW hb
  clear fx0 zx0 fx1 zx1 fx2 zx2 xx fy0 zy0 fy1 zy1 fy2 zy2 xy
  refine (cut_any A15 c15 t up mo Q (x - y - k) P p M E _ (L16.out.get (A := A15) (c := c15) (xs := digs Q) (by simp)) LQ.out (t32_live HT.out L16.out) HP2.out p2 p4 HB.out (by omega) (by omega) HM.out HE.out).mono ?_
  rintro e w17 ⟨A17, c17, rfl, hd, hb⟩
  have L17 := Lib.hid ((L16.out.step hb).add hd)
  have Rx_17 := Lib.hid (cells_of Rx_16.out hb)
  have Ry_17 := Lib.hid (cells_of Ry_16.out hb)
  have Rr_17 := Lib.hid (cells_of Rr_16.out hb)
  have Rsl_17 := Lib.hid (cells_of Rsl_16.out hb)
  have Rk_17 := Lib.hid (cells_of Rk_16.out hb)
  have Rq_17 := Lib.hid (cells_of Rq_16.out hb)
  clear hb hd
  clear HT3 HMO2
  go_wp2_with fail
  refine (answer_d (row_c Rk_17.out (i := 0) rfl) (heap_lt Rk_17.out) (L17.out.get (A := A17) (c := c17) (xs := digs M.natAbs) (by simp)) (Nat.le_trans LM.out (by omega)) HQ.out).mono ?_
  rintro e w18 ⟨A18, c18, rfl, hd, hb⟩
  have L18 := Lib.hid ((L17.out.step hb).add hd)
  have Rx_18 := Lib.hid (cells_of Rx_17.out hb)
  have Ry_18 := Lib.hid (cells_of Ry_17.out hb)
  have Rr_18 := Lib.hid (cells_of Rr_17.out hb)
  have Rsl_18 := Lib.hid (cells_of Rsl_17.out hb)
  have Rk_18 := Lib.hid (cells_of Rk_17.out hb)
  have Rq_18 := Lib.hid (cells_of Rq_17.out hb)
  clear hb hd
  have fr0 := row_c (i := 0) Rr_18.out rfl
  have zr0 := frozen_of_row _ _ 0 _ _ Rr_18.out
  have fr1 := row_c (i := 1) Rr_18.out rfl
  have zr1 := frozen_of_row _ _ 1 _ _ Rr_18.out
  have fr2 := row_c (i := 2) Rr_18.out rfl
  have zr2 := frozen_of_row _ _ 2 _ _ Rr_18.out
  have xr := heap_lt Rr_18.out
  go_wp2
  refine bodyPost_ret (v := .tuple #[.agg #[.bool (decide (M < 0)), .slice A18 (digs M.natAbs).length c18, .int .i64 E], .int .i64 0]) (by simp [results, Tryd.results12, go_sem, fr0, fr1, fr2]) rfl ?_
  
  refine ⟨A18, c18, rfl, ?_, ?_⟩
  · exact (fin3 L18.out Rr_18.out noint3 Gr).get (A := A18) (c := c18) (xs := digs M.natAbs) (by simp)
  · exact (fin3 L18.out Rr_18.out noint3 Gr).1
end Go.Proofs.YtcfoepogbfngmaaDoor
end

section
/-
  quo.Gcd.
-/
namespace Go.Proofs.YtcfoepogbfngmaaDoor
open Go.RowKit
theorem gcd_step (x g : Nat) : Nat.gcd g (x % g) = Nat.gcd x g := by
  rw [Nat.gcd_comm x g, Nat.gcd_rec g x, Nat.gcd_comm g]
section
variable {w0 w w' : World} {L : List (Option Addr × Nat × List Nat)} {A B : Option Addr} {c d n m : Nat} {xs ys : List Nat} {x y : Nat}
end
end Go.Proofs.YtcfoepogbfngmaaDoor
end

section
/-
  Plain arithmetic of the root.
-/
namespace Go.Proofs.YtcfoepogbfngmaaDoor
/-- The greatest number whose square is not above n. -/
def rt (n : Nat) : Nat := if h : n = 0 then 0 else if (2 * rt (n / 4) + 1) * (2 * rt (n / 4) + 1) ≤ n then 2 * rt (n / 4) + 1 else 2 * rt (n / 4)
termination_by n
decreasing_by all_goals omega
theorem sq_lt {a b : Nat} (h : a * a < b * b) : a < b := by
  rcases Nat.lt_or_ge a b with h1 | h1
  · exact h1
  · have := Nat.mul_le_mul h1 h1; omega
theorem rt_step (n : Nat) (h : n ≠ 0) : rt n = if (2 * rt (n / 4) + 1) * (2 * rt (n / 4) + 1) ≤ n then 2 * rt (n / 4) + 1 else 2 * rt (n / 4) := by
  rw [rt]; simp [h]
theorem rt_spec (n : Nat) : rt n * rt n ≤ n ∧ n < (rt n + 1) * (rt n + 1) := by
  induction n using Nat.strongRecOn with
  | ind n ih =>
    by_cases h : n = 0
    · subst h; rw [rt]; simp
    · obtain ⟨h1, h2⟩ := ih (n / 4) (by omega)
      rw [rt_step n h]
      generalize rt (n / 4) = r at *
      have e1 : (2 * r) * (2 * r) = 4 * (r * r) := by rw [Nat.mul_mul_mul_comm]
      have e2 : (2 * r + 1 + 1) * (2 * r + 1 + 1) = 4 * ((r + 1) * (r + 1)) := by rw [show 2 * r + 1 + 1 = 2 * (r + 1) by omega, Nat.mul_mul_mul_comm]
      split
      · exact ⟨by assumption, by rw [e2]; omega⟩
      · exact ⟨by rw [e1]; omega, by omega⟩
theorem rt_is {n s : Nat} (h1 : s * s ≤ n) (h2 : n < (s + 1) * (s + 1)) : s = rt n := by
  obtain ⟨h3, h4⟩ := rt_spec n
  have := sq_lt (Nat.lt_of_le_of_lt h1 h4)
  have := sq_lt (Nat.lt_of_le_of_lt h3 h2)
  omega
theorem rt_le {n s : Nat} (h : n < (s + 1) * (s + 1)) : rt n ≤ s := by
  have := sq_lt (Nat.lt_of_le_of_lt (rt_spec n).1 h); omega
theorem four_le (a b : Nat) : 4 * (a * b) ≤ (a + b) * (a + b) := by
  rcases Nat.le_total a b with h | h
  · obtain ⟨c, rfl⟩ := Nat.exists_eq_add_of_le h
    have : (a + (a + c)) * (a + (a + c)) = 4 * (a * (a + c)) + c * c := by
      simp only [Nat.mul_add, Nat.add_mul, Nat.mul_comm c a]; omega
    omega
  · obtain ⟨c, rfl⟩ := Nat.exists_eq_add_of_le h
    have : (b + c + b) * (b + c + b) = 4 * ((b + c) * b) + c * c := by
      simp only [Nat.mul_add, Nat.add_mul, Nat.mul_comm c b]; omega
    omega
/-- Newton's step stays above the root. -/
theorem newton {n s t : Nat} (hs : 0 < s) (ht : t = (s + n / s) / 2) : n < (t + 1) * (t + 1) := by
  have h1 := Nat.div_add_mod n s
  have h2 := Nat.mod_lt n hs
  have h3 := four_le s (n / s + 1)
  have h4 : s * (n / s + 1) = s * (n / s) + s := by rw [Nat.mul_add, Nat.mul_one]
  generalize n / s = q at *
  have h5 : s + (q + 1) ≤ 2 * (t + 1) := by omega
  have h6 := Nat.mul_le_mul h5 h5
  rw [Nat.mul_mul_mul_comm] at h6
  omega
theorem newton_end {n s t : Nat} (hs : 0 < s) (ht : t = (s + n / s) / 2) (h : s ≤ t) : s * s ≤ n := by
  have h1 : s ≤ n / s := by omega
  exact (Nat.le_div_iff_mul_le hs).1 h1
theorem rt_pos {n : Nat} (h : n ≠ 0) : 0 < rt n := by
  rcases Nat.eq_zero_or_pos (rt n) with h0 | h0
  · have := (rt_spec n).2; rw [h0] at this; omega
  · exact h0
end Go.Proofs.YtcfoepogbfngmaaDoor
end

section
/-
  quo.root, above, Sqrt.
-/
namespace Go.Proofs.YtcfoepogbfngmaaDoor
open Go.RowKit
/-- What above answers. -/
def Abv (w : World) (x : Nat) (e : Ending) (w' : World) : Prop := ∃ A' c' u, e = .returned (.slice A' (digs u).length c') ∧ Dg w' A' c' (digs u) ∧ Below w.heap.size w w' ∧ x < (u + 1) * (u + 1) ∧ 0 < u ∧ (digs u).length ≤ 600000
theorem two_pow_half (b : Nat) : 2 ^ b ≤ 2 ^ ((b + 1) / 2) * 2 ^ ((b + 1) / 2) := by
  rw [← Nat.pow_add]; exact Nat.pow_le_pow_right (by omega) (by omega)
theorem sq_up {x u : Nat} (h : x < u * u) : x < (u + 1) * (u + 1) := Nat.lt_of_lt_of_le h (Nat.mul_le_mul (by omega) (by omega))
theorem own_row {w : World} {base g : Nat} {ys : List Nat} (h : Row w g ys) (hb : base ≤ g) (hm : ys.length ≤ maxLen) : w.ownsRow base 41 1 (.slice (some ⟨g, 0, none⟩) ys.length ys.length) ys.length (cells ys) :=
  ⟨by simp [cells], .inr ⟨g, ys.length, (cells ys).toArray, rfl, hb, h, Nat.le_refl _, hm, by simp [cells], by rw [Nat.mul_one, List.take_of_length_le (by simp [cells])]⟩⟩
theorem digs_lift (k u : Nat) (hu : u ≠ 0) : digs (4294967296 ^ k * u) = List.replicate k 0 ++ digs u := by
  have e : val (List.replicate k 0 ++ digs u) = 4294967296 ^ k * u := by rw [val_append, val_zeros, List.length_replicate, val_digs]; omega
  rw [← e]
  refine digs_val (fun x hx => ?_) (fun x hx => ?_)
  · rcases List.mem_append.1 hx with hx | hx
    · exact ok_zeros k x hx
    · exact ok_digs u x hx
  · rw [List.getLast?_append] at hx
    rcases hd : (digs u).getLast? with _ | z
    · exfalso; rw [List.getLast?_eq_none_iff] at hd; exact hu (digs_nil.1 (by rw [hd]; rfl))
    · rw [hd] at hx; simp at hx; subst hx; exact last_digs hd
end Go.Proofs.YtcfoepogbfngmaaDoor
end

section
/-
  quo.root at every length; quo.Sqrt.
-/
namespace Go.Proofs.YtcfoepogbfngmaaDoor
open Go.RowKit
theorem Dg.drop_ {w : World} {b off c : Nat} {xs : List Nat} (h : Dg w (some ⟨b, off, none⟩) c xs) (j : Nat) : Dg w (some ⟨b, off + j, none⟩) (c - j) (xs.drop j) := by
  refine ⟨by rw [List.length_drop]; have := h.1; omega, fun x hx => h.2.1 x (List.mem_of_mem_drop hx), fun h0 => ?_⟩
  rw [List.length_drop] at h0
  obtain ⟨b', off', e, hb, hc⟩ := h.2.2 (by omega)
  injection e with e
  injection e with e1 e2 _
  subst e1 e2
  refine ⟨b, off + j, rfl, hb, fun i hi => ?_⟩
  rw [List.length_drop] at hi
  rw [Nat.add_assoc, hc _ (by omega), List.getElem?_drop]
theorem rt_self (n : Nat) : rt n ≤ n := by
  rcases Nat.eq_zero_or_pos (rt n) with h | h
  · omega
  · exact Nat.le_trans (Nat.le_mul_of_pos_right _ h) (rt_spec n).1
theorem trimmed_drop {xs : List Nat} (hk : ok32 xs) (ex : digs (val xs) = xs) (j : Nat) : digs (val (xs.drop j)) = xs.drop j := by
  refine digs_val (fun x hx => hk x (List.mem_of_mem_drop hx)) fun x hx => ?_
  rw [List.getLast?_drop] at hx
  split at hx
  · cases hx
  · exact last_digs (n := val xs) (by rw [ex]; exact hx)
theorem above_le {xs : List Nat} (hk : ok32 xs) {k : Nat} (h : 2 * k ≤ xs.length) : val xs < 4294967296 ^ k * (rt (val (xs.drop (2 * k))) + 1) * (4294967296 ^ k * (rt (val (xs.drop (2 * k))) + 1)) := by
  have h1 := val_split xs h
  have h2 := val_take_lt hk (2 * k) h
  have h3 := (rt_spec (val (xs.drop (2 * k)))).2
  rw [Nat.mul_mul_mul_comm, ← Nat.pow_add, show k + k = 2 * k by omega]
  have h4 := Nat.mul_le_mul_left (4294967296 ^ (2 * k)) h3
  rw [Nat.mul_succ] at h4
  omega
section
variable {w0 w w' : World} {L : List (Option Addr × Nat × List Nat)} {A : Option Addr} {c n : Nat} {xs : List Nat} {x : Nat}
end
end Go.Proofs.YtcfoepogbfngmaaDoor
end

section
/-
  dyad.Sqrt.
-/
namespace Go.Proofs.YtcfoepogbfngmaaDoor
open Go.RowKit
set_option linter.unusedSimpArgs false
set_option linter.unusedVariables false
theorem and_i64_1 (v : Int) (h0 : -4611686018427387904 ≤ v) (h1 : v ≤ 4611686018427387904) : bits BinOp.and IntKind.i64 v 1 = v % 2 := by
  show IntKind.i64.wrap ((BitVec.ofInt 64 v &&& BitVec.ofInt 64 1).toNat : Int) = _
  have e1 : (BitVec.ofInt 64 1).toNat = 1 := by decide
  have e2 : (BitVec.ofInt 64 v).toNat = (v % 18446744073709551616).toNat := by rw [BitVec.toNat_ofInt]; rfl
  rw [BitVec.toNat_and, e1, e2, Nat.and_one_is_mod, IntWalk.i64_in _ ⟨by omega, by omega⟩]
  omega
theorem sqrt_kept {m x h : Int} {k p : Nat} {up more : Bool} (m0 : 0 < m) (p1 : 1 ≤ p) (hk : 2 * p ≤ blen m.natAbs + k) (hh : x - k = 2 * h) (hm : more = decide (m.natAbs * 2 ^ k - rt (m.natAbs * 2 ^ k) * rt (m.natAbs * 2 ^ k) ≠ 0)) :
    p ≤ blen (rt (m.natAbs * 2 ^ k)) ∧ RsOf (dv m x) p up (nm (kept (rt (m.natAbs * 2 ^ k)) p more up : Nat)) (nx (kept (rt (m.natAbs * 2 ^ k)) p more up : Nat) (h + (blen (rt (m.natAbs * 2 ^ k)) - p : Nat))) := by
  have ⟨a, b⟩ := rt_spec (m.natAbs * 2 ^ k)
  have hN : 2 ^ (2 * (p - 1)) ≤ m.natAbs * 2 ^ k := by
    have ⟨a, _, c⟩ := blen_bd m.natAbs (by omega)
    refine Nat.le_trans (Nat.pow_le_pow_right (by omega) (show 2 * (p - 1) ≤ blen m.natAbs - 1 + k by omega)) ?_
    rw [Nat.pow_add]; exact Nat.mul_le_mul_right _ a
  have hv : dv m x = dv ((m.natAbs * 2 ^ k : Nat) : Int) (h + h) := by
    have := dv_pow (m.natAbs : Int) k (h + h)
    rw [show h + h + (k : Int) = x by omega] at this
    rw [show ((m.natAbs : Nat) : Int) = m by omega] at this
    rw [← this]; congr 1
    push_cast
    rw [show ((m.natAbs : Nat) : Int) = m by omega]
  generalize m.natAbs * 2 ^ k = N at *
  generalize rt N = R at *
  have hR : 2 ^ (p - 1) ≤ R := by
    rcases Nat.lt_or_ge R (2 ^ (p - 1)) with h | h
    · exfalso
      have h1 : (R + 1) * (R + 1) ≤ 2 ^ (p - 1) * 2 ^ (p - 1) := Nat.mul_le_mul h h
      rw [← Nat.pow_add, show p - 1 + (p - 1) = 2 * (p - 1) by omega] at h1
      omega
    · exact h
  have hpb : p ≤ blen R := by
    have h1 := blen_uniq (n := 2 ^ (p - 1)) (k := p - 1) (Nat.le_refl _) (Nat.pow_lt_pow_right (by omega) (by omega))
    have := blen_mono hR
    omega
  refine ⟨hpb, ?_⟩
  have e1 : dv (R : Int) h * dv (R : Int) h = dv ((R * R : Nat) : Int) (h + h) := by rw [dv_mul]; congr 1
  have e2 : dv (R + 1 : Int) h * dv (R + 1 : Int) h = dv (((R + 1) * (R + 1) : Nat) : Int) (h + h) := by rw [dv_mul]; congr 1
  refine kept_rs (more := more) (up := up) (e := h) hpb p1 ?_ ?_ ?_ (nf_n _ _) (dv_n _ _)
  · rw [e1, hv, dv_le]; exact_mod_cast a
  · rw [e2, hv, dv_lt]; exact_mod_cast b
  · rw [hm, decide_eq_decide, e1, hv]
    constructor
    · intro h1 h2
      have h3 := dv_inj h2
      have : N = R * R := by exact_mod_cast h3
      omega
    · intro h1 h2
      apply h1
      have : N = R * R := by omega
      rw [this]
theorem div_yes {A B : Option Addr} {c d : Nat} {m n x y P M E : Int} {up : Bool} {w : World} (h : Dg w A c (digs m.natAbs)) (h' : Dg w B d (digs n.natAbs)) (hl : (digs m.natAbs).length ≤ 10000) (hl' : (digs n.natAbs).length ≤ 10000) (r1 : Rt m x) (r2 : Rt n y) (hT : T32 w) {p : Nat} (hP : (p : Int) = P) (p2 : 2 ≤ p) (p4 : p ≤ 400) (n0 : n ≠ 0) (hs : RdOf (dv m x / dv n y) p up M E) (hq : inR M E = true) :
    Calls Tryd.prog 12 #[.agg #[.bool (decide (m < 0)), .slice A (digs m.natAbs).length c, .int .i64 x], .agg #[.bool (decide (n < 0)), .slice B (digs n.natAbs).length d, .int .i64 y], .int .i64 P, .bool up] w fun e w' => Ye M E 0 w e w' := by
  by_cases m0 : m = 0
  · exact div_z_ A B c d m n x y P M E up w h h' hl hl' r1 r2 hT hP p2 p4 n0 hs hq m0
  · exact div_b_ A B c d m n x y P M E up w h h' hl hl' r1 r2 hT hP p2 p4 n0 hs hq m0
end Go.Proofs.YtcfoepogbfngmaaDoor
end

section
/-
  The reference's Same, of numbers that are not the same too; the law's own 'same'.
-/
namespace Go.Proofs.YtcfoepogbfngmaaDoor
open Go.RowKit
set_option linter.unusedSimpArgs false
set_option linter.unusedVariables false
theorem first_diff : ∀ (xs ys : List Nat), xs.length = ys.length → xs ≠ ys → ∃ i, i < xs.length ∧ xs[i]?.getD 0 ≠ ys[i]?.getD 0 ∧ ∀ j, j < i → xs[j]?.getD 0 = ys[j]?.getD 0 := by
  intro xs
  induction xs with
  | nil => intro ys h hne; cases ys; exact absurd rfl hne; simp at h
  | cons x r ih =>
    intro ys h hne
    rcases ys with _ | ⟨y, s⟩
    · simp at h
    · by_cases hx : x = y
      · subst hx
        obtain ⟨i, h1, h2, h3⟩ := ih s (by simpa using h) (fun e => hne (by rw [e]))
        refine ⟨i + 1, by simp; omega, by simpa using h2, fun j hj => ?_⟩
        rcases j with _ | j
        · rfl
        · simpa using h3 j (by omega)
      · exact ⟨0, by simp, by simpa using hx, fun j hj => by omega⟩
set_option maxHeartbeats 2000000 in
set_option maxRecDepth 100000 in
theorem Same_diff (A B : Option Addr) (c d : Nat) (s : Bool) (xs ys : List Nat) (w : World) (h : Dg w A c xs) (h' : Dg w B d ys) (hl : xs.length ≤ 16777216) (hlen : xs.length = ys.length) (hne : xs ≠ ys) :
    Calls Tryd.prog 40 #[.agg #[.bool s, .slice A xs.length c], .agg #[.bool s, .slice B xs.length d]] w fun e w' => e = .returned (.bool false) ∧ Below w.heap.size w w' := by
  obtain ⟨i, hi, hd, hs⟩ := first_diff xs ys hlen hne
  have hne : ((xs.length : Int) != (xs.length : Int)) = false := by simp
  have hns : (s != s) = false := by simp
  have H1 := Lib.hid (h.below (below2 w (.cells #[.bool s, .slice A xs.length c] 24) (.cells #[.bool s, .slice B xs.length d] 24)))
  have H2 := Lib.hid (h'.below (below2 w (.cells #[.bool s, .slice A xs.length c] 24) (.cells #[.bool s, .slice B xs.length d] 24)))
  have HS := Lib.hid hs
  have HD := Lib.hid hd
  have HLEN := Lib.hid hlen
  have hc1 := h.1
  have hc2 : xs.length ≤ d := by have := h'.1; omega
  clear h h' hs hd hlen
  go_enter Tryd.func40, Tryd.ntmps40
  go_wp2
  go_loopw [5] (fun v wr => (∃ k : Nat, k ≤ i ∧ v = .int .i64 k) ∧ ∃ m, wr = ((w.alloc (.cells #[.bool s, .slice A xs.length c] 24)).alloc (.cells #[.bool s, .slice B xs.length d] 24)).drewN m) (fun v _ => xs.length - (intOf v).toNat)
  case atStart => exact ⟨⟨0, Nat.zero_le _, rfl⟩, 0, rfl⟩
  case round =>
    obtain ⟨⟨k, hk, rfl⟩, m, rfl⟩ := hrel
    have hkl : k < xs.length := by omega
    obtain ⟨b, off, hA, hb, hcx⟩ := H1.out.2.2 (by omega)
    obtain ⟨b', off', hB, hb', hcy⟩ := H2.out.2.2 (by have := HLEN.out; omega)
    have hx := hcx k hkl
    have hy := hcy k (by have := HLEN.out; omega)
    by_cases hlt : k < i
    · rw [← HS.out k hlt] at hy
      generalize xs[k]?.getD 0 = x at *
      have t1 : ((x : Int) != (x : Int)) = false := by simp
      clear hcx hcy H1 H2
      subst hA hB
      go_wp2_with fail
      go_quiet (fail)
      go_wp2_with fail
      go_roundw
      case rel => exact ⟨⟨k + 1, by omega, by go_num⟩, _, rfl⟩
      case measure => simp [intOf]; omega
    · obtain rfl : k = i := by omega
      have hdd := HD.out
      generalize xs[k]?.getD 0 = x at *
      generalize ys[k]?.getD 0 = y at *
      have t1 : ((x : Int) != (y : Int)) = true := by simp; omega
      clear hcx hcy H1 H2 hdd
      subst hA hB
      go_wp2_with fail
      go_quiet (fail)
      go_wp2
      go_ret
      exact ⟨rfl, below_drewN (below_drewN (below2 _ _ _) _) _⟩
set_option maxHeartbeats 2000000 in
set_option maxRecDepth 100000 in
theorem Same_len (A B : Option Addr) (c d n k : Nat) (s r : Bool) (w : World) (hne : s ≠ r ∨ n ≠ k) :
    Calls Tryd.prog 40 #[.agg #[.bool s, .slice A n c], .agg #[.bool r, .slice B k d]] w fun e w' => e = .returned (.bool false) ∧ Below w.heap.size w w' := by
  by_cases hs : s = r
  · have hn : ((n : Int) != (k : Int)) = true := by
      have : n ≠ k := hne.resolve_left (fun h => h hs)
      simp; omega
    have hns : (s != s) = false := by simp
    subst hs
    clear hne
    go_enter Tryd.func40, Tryd.ntmps40
    go_wp2
    go_ret
    exact ⟨rfl, below2 _ _ _⟩
  · clear hne
    cases s <;> cases r
    · exact absurd rfl hs
    · clear hs
      go_enter Tryd.func40, Tryd.ntmps40
      go_wp2
      go_ret
      exact ⟨rfl, below2 _ _ _⟩
    · clear hs
      go_enter Tryd.func40, Tryd.ntmps40
      go_wp2
      go_ret
      exact ⟨rfl, below2 _ _ _⟩
    · exact absurd rfl hs
theorem Same_q {A B : Option Addr} {c d : Nat} {m n : Int} {q : Bool} {w : World} (h : Dg w A c (digs m.natAbs)) (h' : Dg w B d (digs n.natAbs)) (hl : (digs m.natAbs).length ≤ 16777216) (hq : decide (m = n) = q) :
    Calls Tryd.prog 40 #[.agg #[.bool (decide (m < 0)), .slice A (digs m.natAbs).length c], .agg #[.bool (decide (n < 0)), .slice B (digs n.natAbs).length d]] w fun e w' => e = .returned (.bool q) ∧ Below w.heap.size w w' := by
  by_cases hmn : m = n
  · subst hmn
    rw [decide_eq_true rfl] at hq; subst hq
    exact Same_any A B c d _ _ w h h' hl
  · rw [decide_eq_false hmn] at hq; subst hq
    by_cases hs : decide (m < 0) = decide (n < 0)
    · by_cases hlen : (digs m.natAbs).length = (digs n.natAbs).length
      · have := Same_diff A B c d (decide (m < 0)) _ _ w h h' hl hlen (fun e => hmn (by have := digs_inj e; rw [decide_eq_decide] at hs; omega))
        rw [← hs, ← hlen]; exact this
      · exact Same_len A B c d _ _ _ _ w (.inr hlen)
    · exact Same_len A B c d _ _ _ _ w (.inl hs)
set_option maxHeartbeats 2000000 in
set_option maxRecDepth 100000 in
theorem dSame_q {A B : Option Addr} {c d : Nat} {m n x y : Int} {q : Bool} {w : World} (h : Dg w A c (digs m.natAbs)) (h' : Dg w B d (digs n.natAbs)) (hl : (digs m.natAbs).length ≤ 10000) (hq : decide (m = n ∧ x = y) = q) :
    Calls Tryd.prog 23 #[.agg #[.bool (decide (m < 0)), .slice A (digs m.natAbs).length c, .int .i64 x], .agg #[.bool (decide (n < 0)), .slice B (digs n.natAbs).length d, .int .i64 y]] w fun e w' => e = .returned (.bool q) ∧ Below w.heap.size w w' := by
  by_cases hxy : x = y
  · subst hxy
    have HS := Lib.hid (fun W (h : Dg W A c (digs m.natAbs)) (h' : Dg W B d (digs n.natAbs)) => Same_q (q := q) h h' (by omega) (by rw [← hq]; simp))
    have H := Lib.hid h
    have H' := Lib.hid h'
    have t0 : (x == x) = true := by simp
    clear h h' hq
    go_enter Tryd.func23, Tryd.ntmps23
    go_wp2_with fail
    refine (HS.out _ (H.out.below (below2 _ _ _)) (H'.out.below (below2 _ _ _))).mono ?_
    rintro e w1 ⟨rfl, hb⟩
    have HB := Lib.hid ((below2 w _ _).trans (hb.mono (by simp; omega)))
    clear hb
    go_wp2
    go_ret
    exact ⟨rfl, HB.out⟩
  · have t0 : (x == y) = false := by simpa using hxy
    rw [decide_eq_false (fun e => hxy e.2)] at hq
    subst hq
    clear hxy h h'
    go_enter Tryd.func23, Tryd.ntmps23
    go_wp2
    go_ret
    exact ⟨rfl, below2 _ _ _⟩
set_option maxHeartbeats 2000000 in
set_option maxRecDepth 100000 in
theorem dsame_d {A B : Option Addr} {c d : Nat} {m n x y : Int} {q : Bool} {w : World} (h : Dg w A c (digs m.natAbs)) (h' : Dg w B d (digs n.natAbs)) (hl : (digs m.natAbs).length ≤ 10000) (hq : decide (m = n ∧ x = y) = q) :
    Calls Tryd.prog 8 #[.agg #[.bool (decide (m < 0)), .slice A (digs m.natAbs).length c, .int .i64 x], .agg #[.bool (decide (n < 0)), .slice B (digs n.natAbs).length d, .int .i64 y]] w fun e w' => e = .returned (.bool q) ∧ Below w.heap.size w w' := by
  have HS := Lib.hid (fun W (h : Dg W A c (digs m.natAbs)) (h' : Dg W B d (digs n.natAbs)) => dSame_q (q := q) (x := x) (y := y) h h' hl hq)
  have H := Lib.hid h
  have H' := Lib.hid h'
  clear h h' hq hl
  go_enter Tryd.func8, Tryd.ntmps8
  go_wp2_with fail
  refine (HS.out _ (H.out.below (below2 _ _ _)) (H'.out.below (below2 _ _ _))).mono ?_
  rintro e w1 ⟨rfl, hb⟩
  have HB := Lib.hid ((below2 w _ _).trans (hb.mono (by simp; omega)))
  clear hb
  go_wp2
  go_ret
  exact ⟨rfl, HB.out⟩
end Go.Proofs.YtcfoepogbfngmaaDoor
end

section
/-
  dyad.Make, From, Half.
-/
namespace Go.Proofs.YtcfoepogbfngmaaDoor
open Go.RowKit
set_option linter.unusedSimpArgs false
set_option linter.unusedVariables false
set_option maxHeartbeats 4000000 in
set_option maxRecDepth 100000 in
theorem make_yes (A : Option Addr) (c : Nat) (s : Bool) (xs : List Nat) (y M E : Int) (w : World) (h : Dg w A c xs) (hl : xs.length ≤ 400000) (hT : T32 w) (hy0 : -100000 ≤ y) (hy1 : y ≤ 100000) (hM : nm (sg s (val xs)) = M) (hE : nx (sg s (val xs)) y = E) (hq : inR M E = true):
    Calls Tryd.prog 13 #[.agg #[.bool s, .slice A xs.length c], .int .i64 y] w fun e w' => Yb M E true w e w' := by
  have l1 := digs_len_le h.2.1
  have MK := Lib.hid (fun W (hW : Dg W A c xs) => zmake_any A c s xs W hW (by omega))
  obtain ⟨z, hz⟩ : ∃ z, sg s (val xs) = z := ⟨_, rfl⟩
  have hzl : (digs z.natAbs).length ≤ 400000 := by rw [← hz, sg_abs]; omega
  rw [hz] at MK hM hE
  have hml := nm_len z
  rw [hM] at hml
  have LZ := Lib.hid hzl
  have LM := Lib.hid (show (digs M.natAbs).length ≤ 400000 by omega)
  have HM := Lib.hid (show nm (sg (decide (z < 0)) z.natAbs) = M by rw [sg_abs2]; exact hM)
  have HE := Lib.hid (show nx (sg (decide (z < 0)) z.natAbs) y = E by rw [sg_abs2]; exact hE)
  have HQ := Lib.hid hq
  have d1 : decide (y < -100000) = false := by simp; omega
  have d2 : decide (100000 < y) = false := by simp; omega
  have HT := Lib.hid hT
  clear hT
  have L0 := Lib.hid ((live_start w).add h)
  clear h hz hzl hM hE hml hq l1
  go_enter Tryd.func13, Tryd.ntmps13
  go_wp2_with fail
  obtain ⟨v1, hW⟩ : ∃ W : World, W = ((w.alloc (.cells #[.bool s, .slice A xs.length c] 24)).alloc (.cells #[.bool false, .slice none 0 0, .int .i64 0] 26)) := ⟨_, rfl⟩
  rw [← hW]
  have hb : Below w.heap.size w v1 := by rw [hW]; exact (((Below.refl _ _).alloc (by simp <;> omega) _).alloc (by simp <;> omega) _)
  have L1 := Lib.hid (L0.out.step hb)
  have Rm_1 := Lib.hid (show v1.heap[w.heap.size]? = some (.cells #[.bool s, .slice A xs.length c] 24 (0, 0)) by rw [hW]; have := heap_alloc_new w (.cells #[.bool s, .slice A xs.length c] 24); rw [heap_alloc_old _ _ (by simp <;> omega)]; simpa using this)
  have Gm : w.heap.size ≤ w.heap.size := by have := L0.out.1.size; omega
  have Rr_1 := Lib.hid (show v1.heap[w.heap.size + 1]? = some (.cells #[.bool false, .slice none 0 0, .int .i64 0] 26 (0, 0)) by rw [hW]; have := heap_alloc_new (w.alloc (.cells #[.bool s, .slice A xs.length c] 24)) (.cells #[.bool false, .slice none 0 0, .int .i64 0] 26); simpa using this)
  have Gr : w.heap.size ≤ w.heap.size + 1 := by have := L0.out.1.size; omega
  have Nmr : w.heap.size < w.heap.size + 1 := by omega
  clear hW hb
  refine (MK.out _ (L1.out.get (A := A) (c := c) (xs := xs) (by simp))).mono ?_
  rintro e w2 ⟨A2, c2, rfl, hd, hb⟩
  have L2 := Lib.hid ((L1.out.step hb).add hd)
  have Rm_2 := Lib.hid (cells_of Rm_1.out hb)
  have Rr_2 := Lib.hid (cells_of Rr_1.out hb)
  clear hb hd
  have fm0 := row_c (i := 0) Rm_2.out rfl
  have zm0 := frozen_of_row _ _ 0 _ _ Rm_2.out
  have fm1 := row_c (i := 1) Rm_2.out rfl
  have zm1 := frozen_of_row _ _ 1 _ _ Rm_2.out
  have xm := heap_lt Rm_2.out
  go_wp2_with fail
  refine (odd_any A2 c2 (decide (z < 0)) z.natAbs y M E _ (L2.out.get (A := A2) (c := c2) (xs := digs z.natAbs) (by simp)) (Nat.le_trans LZ.out (by omega)) (t32_live HT.out L2.out) ⟨by omega, by omega⟩ HM.out HE.out).mono ?_
  rintro e w3 ⟨A3, c3, rfl, hd, hb⟩
  have L3 := Lib.hid ((L2.out.step hb).add hd)
  clear fm0 zm0 fm1 zm1 xm
  have Rm_3 := Lib.hid (cells_of Rm_2.out hb)
  have Rr_3 := Lib.hid (cells_of Rr_2.out hb)
  clear hb hd
  go_wp2_with fail
  obtain ⟨w4, hW⟩ : ∃ W : World, W = (w3.alloc (.cells #[.bool (decide (M < 0)), .slice A3 (digs M.natAbs).length c3, .int .i64 E] 26)) := ⟨_, rfl⟩
  rw [← hW]
  have hb : Below w3.heap.size w3 w4 := by rw [hW]; exact ((Below.refl _ _).alloc (by simp <;> omega) _)
  have L4 := Lib.hid (L3.out.step hb)
  have Rm_4 := Lib.hid (cells_of Rm_3.out hb)
  have Rr_4 := Lib.hid (cells_of Rr_3.out hb)
  have Rx_4 := Lib.hid (show w4.heap[w3.heap.size]? = some (.cells #[.bool (decide (M < 0)), .slice A3 (digs M.natAbs).length c3, .int .i64 E] 26 (0, 0)) by rw [hW]; have := heap_alloc_new w3 (.cells #[.bool (decide (M < 0)), .slice A3 (digs M.natAbs).length c3, .int .i64 E] 26); simpa using this)
  have Gx : w.heap.size ≤ w3.heap.size := by have := L3.out.1.size; omega
  have Nmx : w.heap.size < w3.heap.size := by have := heap_lt Rm_3.out; omega
  have Nrx : w.heap.size + 1 < w3.heap.size := by have := heap_lt Rr_3.out; omega
  clear hW hb
  refine (inRange_any A3 c3 (decide (M < 0)) M E _ (L4.out.get (A := A3) (c := c3) (xs := digs M.natAbs) (by simp)) true HQ.out (Nat.le_trans LM.out (by omega))).mono ?_
  rintro e w5 ⟨rfl, hb⟩
  have L5 := Lib.hid (L4.out.step hb)
  have Rm_5 := Lib.hid (cells_of Rm_4.out hb)
  have Rr_5 := Lib.hid (cells_of Rr_4.out hb)
  have Rx_5 := Lib.hid (cells_of Rx_4.out hb)
  clear hb 
  have fx0 := row_c (i := 0) Rx_5.out rfl
  have zx0 := frozen_of_row _ _ 0 _ _ Rx_5.out
  have fx1 := row_c (i := 1) Rx_5.out rfl
  have zx1 := frozen_of_row _ _ 1 _ _ Rx_5.out
  have fx2 := row_c (i := 2) Rx_5.out rfl
  have zx2 := frozen_of_row _ _ 2 _ _ Rx_5.out
  have xx := heap_lt Rx_5.out
  have fr0 := row_c (i := 0) Rr_5.out rfl
  have zr0 := frozen_of_row _ _ 0 _ _ Rr_5.out
  have fr1 := row_c (i := 1) Rr_5.out rfl
  have zr1 := frozen_of_row _ _ 1 _ _ Rr_5.out
  have fr2 := row_c (i := 2) Rr_5.out rfl
  have zr2 := frozen_of_row _ _ 2 _ _ Rr_5.out
  have xr := heap_lt Rr_5.out
  go_wp2
  refine bodyPost_ret (v := .tuple #[.agg #[.bool (decide (M < 0)), .slice A3 (digs M.natAbs).length c3, .int .i64 E], .bool true]) (by simp [results, Tryd.results13, go_sem, fx0, fx1, fx2, fr0, fr1, fr2]) rfl ?_
  
  refine ⟨A3, c3, rfl, ?_, ?_⟩
  · exact (fin3 L5.out Rr_5.out noint3 Gr).get (A := A3) (c := c3) (xs := digs M.natAbs) (by simp)
  · exact (fin3 L5.out Rr_5.out noint3 Gr).1

set_option maxHeartbeats 4000000 in
set_option maxRecDepth 100000 in
theorem from_yes (n M E : Int) (w : World) (hT : T32 w) (h0 : -9223372036854775808 ≤ n) (h1 : n ≤ 9223372036854775807) (hM : nm n = M) (hE : nx n 0 = E):
    Calls Tryd.prog 11 #[.int .i64 n] w fun e w' => Yr M E w e w' := by
  have FR := Lib.hid (fun W => zfrom_any n W h0 h1)
  have LN := Lib.hid (show (digs n.natAbs).length ≤ 2 from digs_small (by omega))
  have HM := Lib.hid (show nm (sg (decide (n < 0)) n.natAbs) = M by rw [sg_abs2]; exact hM)
  have HE := Lib.hid (show nx (sg (decide (n < 0)) n.natAbs) 0 = E by rw [sg_abs2]; exact hE)
  have HT := Lib.hid hT
  clear hT
  have L0 := Lib.hid (live_start w)
  clear h0 h1 hM hE
  go_enter Tryd.func11, Tryd.ntmps11
  go_wp2_with fail
  obtain ⟨v1, hW⟩ : ∃ W : World, W = (w.alloc (.cells #[.bool false, .slice none 0 0, .int .i64 0] 26)) := ⟨_, rfl⟩
  rw [← hW]
  have hb : Below w.heap.size w v1 := by rw [hW]; exact ((Below.refl _ _).alloc (by simp <;> omega) _)
  have L1 := Lib.hid (L0.out.step hb)
  have Rr_1 := Lib.hid (show v1.heap[w.heap.size]? = some (.cells #[.bool false, .slice none 0 0, .int .i64 0] 26 (0, 0)) by rw [hW]; have := heap_alloc_new w (.cells #[.bool false, .slice none 0 0, .int .i64 0] 26); simpa using this)
  have Gr : w.heap.size ≤ w.heap.size := by have := L0.out.1.size; omega
  clear hW hb
  refine (FR.out _).mono ?_
  rintro e w2 ⟨A2, c2, rfl, hd, hb⟩
  have L2 := Lib.hid ((L1.out.step hb).add hd)
  have Rr_2 := Lib.hid (cells_of Rr_1.out hb)
  clear hb hd
  go_wp2_with fail
  refine (odd_any A2 c2 (decide (n < 0)) n.natAbs 0 M E _ (L2.out.get (A := A2) (c := c2) (xs := digs n.natAbs) (by simp)) (Nat.le_trans LN.out (by omega)) (t32_live HT.out L2.out) ⟨by omega, by omega⟩ HM.out HE.out).mono ?_
  rintro e w3 ⟨A3, c3, rfl, hd, hb⟩
  have L3 := Lib.hid ((L2.out.step hb).add hd)
  have Rr_3 := Lib.hid (cells_of Rr_2.out hb)
  clear hb hd
  have fr0 := row_c (i := 0) Rr_3.out rfl
  have zr0 := frozen_of_row _ _ 0 _ _ Rr_3.out
  have fr1 := row_c (i := 1) Rr_3.out rfl
  have zr1 := frozen_of_row _ _ 1 _ _ Rr_3.out
  have fr2 := row_c (i := 2) Rr_3.out rfl
  have zr2 := frozen_of_row _ _ 2 _ _ Rr_3.out
  have xr := heap_lt Rr_3.out
  go_wp2
  refine bodyPost_ret (v := .agg #[.bool (decide (M < 0)), .slice A3 (digs M.natAbs).length c3, .int .i64 E]) (by simp [results, Tryd.results11, go_sem, fr0, fr1, fr2]) rfl ?_
  
  refine ⟨A3, c3, rfl, ?_, ?_⟩
  · exact (fin3 L3.out Rr_3.out noint3 Gr).get (A := A3) (c := c3) (xs := digs M.natAbs) (by simp)
  · exact (fin3 L3.out Rr_3.out noint3 Gr).1
end Go.Proofs.YtcfoepogbfngmaaDoor
end

section
/-
  A region that draws its order, whose last store may come ahead of what stands behind it ('x, ok := f(g(a), b)': the store into x's new box, and ok's part of the answer).
-/
namespace Go.Proofs.YtcfoepogbfngmaaDoor
open Go.RowKit
section
variable {P : Program} {ops : Array Oper} {Q : Exit → Act → World → Prop} {md : Region.Mode}
theorem wpAny_phaseP {Pb Ob : Nat → Bool} (I : Array Bool → Act → World → Prop) (hb : backB md ops = true) (hne : ∃ j, j < ops.size ∧ Ob j = false)
    (hP : ∀ i, i < ops.size → Ob i = false → ∀ k, k < ops.size → Pb k = true → waitsT md ops ops.size i k = true)
    (step : ∀ l a w i, I l a w → l.size = ops.size → i < ops.size → Ob i = true → i ∈ Region.ready md ops l → wpOp P ops Q i (fun a' w' => I (l.setIfInBounds i true) a' w') a w)
    (fin : ∀ l a w, I l a w → l.size = ops.size → (∀ i, i < ops.size → Pb i = true → l.getD i false = true) → (∀ i, i < ops.size → Ob i = false → l.getD i false = false) → ∀ fuel, still l ≤ fuel → wpAny P md ops Q fuel l a w) :
    ∀ (fuel : Nat) (l : Array Bool) (a : Act) (w : World), still l ≤ fuel → l.size = ops.size → Down md ops l → (∀ k, k < ops.size → Ob k = false → l.getD k false = false) → I l a w → wpAny P md ops Q fuel l a w := by
  intro fuel
  induction fuel with
  | zero =>
    intro l a w hf hl hd hno hI
    exfalso
    obtain ⟨j, hj, hjp⟩ := hne
    have h1 := hno j hj hjp
    have h2 : l.getD j true = false := by
      have : j < l.size := by omega
      simp [this] at h1 ⊢; exact h1
    have := still_set h2
    omega
  | succ fuel ih =>
    intro l a w hf hl hd hno hI
    by_cases hall : ∀ k, k < ops.size → Pb k = true → l.getD k false = true
    · exact fin l a w hI hl hall hno _ hf
    · refine ⟨fun hr => ?_, fun i hi => ?_⟩
      · exfalso
        obtain ⟨j, hj, hjp⟩ := hne
        have := all_of_back hb hl hr j hj
        rw [hno j hj hjp] at this; cases this
      · have hiu := (mem_ready.1 hi).1
        have hin : i < ops.size := by
          rcases Nat.lt_or_ge i l.size with h' | h'
          · omega
          · simp [Array.getElem?_eq_none h'] at hiu
        have hip : Ob i = true := by
          cases hp : Ob i
          · exfalso; apply hall
            intro k hk hkp
            exact hd.ready hi (hP i hin hp k hk hkp)
          · rfl
        have hst := still_set hiu
        refine wpOp_mono (fun a' w' h' => ih _ a' w' (by omega) (by simpa using hl) (hd.set hi) (fun k hk hkp => ?_) h') (step l a w i hI hl hin hip hi)
        have : i ≠ k := by rintro rfl; rw [hip] at hkp; cases hkp
        rw [getD_set_ne false this]; exact hno k hk hkp
/-- Two in either order, and one behind them. -/
theorem wpAny_late {L0 : Array Bool} {x y z : Nat} {a : Act} {w : World} {fuel : Nat} (hf : 3 ≤ fuel) (r1 : Region.ready md ops L0 = [x, y]) (r2 : Region.ready md ops (L0.setIfInBounds x true) = [y]) (r3 : Region.ready md ops (L0.setIfInBounds y true) = [x])
    (r4 : Region.ready md ops ((L0.setIfInBounds x true).setIfInBounds y true) = [z]) (r5 : Region.ready md ops ((L0.setIfInBounds y true).setIfInBounds x true) = [z])
    (r6 : Region.ready md ops (((L0.setIfInBounds x true).setIfInBounds y true).setIfInBounds z true) = []) (r7 : Region.ready md ops (((L0.setIfInBounds y true).setIfInBounds x true).setIfInBounds z true) = [])
    (h1 : wpOps P ops Q [x, y, z] a w) (h2 : wpOps P ops Q [y, x, z] a w) : wpAny P md ops Q fuel L0 a w := by
  obtain ⟨f, rfl⟩ : ∃ f, fuel = f + 1 + 1 + 1 := ⟨fuel - 3, by omega⟩
  have hend : ∀ l a w, Region.ready md ops l = [] → Q .normal a w → wpAny P md ops Q f l a w := by
    intro l a w hr hq
    cases f with
    | zero => exact ⟨hr, hq⟩
    | succ f => exact ⟨fun _ => hq, fun i hi => by rw [hr] at hi; cases hi⟩
  simp only [wpOps_cons] at h1 h2
  refine ⟨fun hr => (by rw [r1] at hr; cases hr), fun i hi => ?_⟩
  rw [r1] at hi
  simp only [List.mem_cons, List.not_mem_nil, or_false] at hi
  rcases hi with rfl | rfl
  · refine wpOp_mono (fun a w h => ⟨fun hr => (by rw [r2] at hr; cases hr), fun j hj => ?_⟩) h1
    rw [r2] at hj; simp only [List.mem_cons, List.not_mem_nil, or_false] at hj; subst hj
    refine wpOp_mono (fun a w h => ⟨fun hr => (by rw [r4] at hr; cases hr), fun j hj => ?_⟩) h
    rw [r4] at hj; simp only [List.mem_cons, List.not_mem_nil, or_false] at hj; subst hj
    exact wpOp_mono (fun a w h => hend _ _ _ r6 h) h
  · refine wpOp_mono (fun a w h => ⟨fun hr => (by rw [r3] at hr; cases hr), fun j hj => ?_⟩) h2
    rw [r3] at hj; simp only [List.mem_cons, List.not_mem_nil, or_false] at hj; subst hj
    refine wpOp_mono (fun a w h => ⟨fun hr => (by rw [r5] at hr; cases hr), fun j hj => ?_⟩) h
    rw [r5] at hj; simp only [List.mem_cons, List.not_mem_nil, or_false] at hj; subst hj
    exact wpOp_mono (fun a w h => hend _ _ _ r7 h) h
theorem wpAny_two {L0 : Array Bool} {y z : Nat} {a : Act} {w : World} {fuel : Nat} (hf : 2 ≤ fuel) (r1 : Region.ready md ops L0 = [y]) (r2 : Region.ready md ops (L0.setIfInBounds y true) = [z]) (r3 : Region.ready md ops ((L0.setIfInBounds y true).setIfInBounds z true) = [])
    (h1 : wpOps P ops Q [y, z] a w) : wpAny P md ops Q fuel L0 a w := by
  obtain ⟨f, rfl⟩ : ∃ f, fuel = f + 1 + 1 := ⟨fuel - 2, by omega⟩
  have hend : ∀ l a w, Region.ready md ops l = [] → Q .normal a w → wpAny P md ops Q f l a w := by
    intro l a w hr hq
    cases f with
    | zero => exact ⟨hr, hq⟩
    | succ f => exact ⟨fun _ => hq, fun i hi => by rw [hr] at hi; cases hi⟩
  simp only [wpOps_cons] at h1
  refine ⟨fun hr => (by rw [r1] at hr; cases hr), fun i hi => ?_⟩
  rw [r1] at hi; simp only [List.mem_cons, List.not_mem_nil, or_false] at hi; subst hi
  refine wpOp_mono (fun a w h => ⟨fun hr => (by rw [r2] at hr; cases hr), fun j hj => ?_⟩) h1
  rw [r2] at hj; simp only [List.mem_cons, List.not_mem_nil, or_false] at hj; subst hj
  exact wpOp_mono (fun a w h => hend _ _ _ r3 h) h
/-- Loads, calls and new boxes in whatever order; behind them a store, and the last one; and one (x) that may come ahead of the store or behind it. D: the operands' slots; S: their numbers, but x. -/
theorem wp_operands_late {id : Nat} {a0 : Act} {W : World} (hm : P.follows .mixedOrders = true) (x y z : Nat) (S : List Nat) (D : List Tmp) (R : Nat → Value → World → Prop)
    (hn : ((List.range ops.size).all fun i => S.contains i || i == x || i == y || i == z) = true) (hb : backB .any ops = true) (hx : x < ops.size ∧ y < ops.size ∧ z < ops.size ∧ x ≠ y ∧ x ≠ z ∧ y ≠ z)
    (hS : (S.all fun i => decide (i < ops.size) && decide (i ≠ x) && decide (i ≠ y) && decide (i ≠ z)) = true)
    (ht : ([y, z].all fun i => S.all fun k => waitsT .any ops ops.size i k) = true) (hw : ((x :: S).all fun i => (List.range ops.size).all fun k => !waitsB .any ops i k || S.contains k) = true)
    (hnd : ((x :: S).map (D.getD · 0)).Nodup) (hin : ((x :: S).all fun i => decide (D.getD i 0 < a0.tmps.size)) = true)
    (r1 : Region.ready .any ops ((List.range ops.size).map (S.contains ·)).toArray = [x, y]) (r2 : Region.ready .any ops (((List.range ops.size).map (S.contains ·)).toArray.setIfInBounds x true) = [y]) (r3 : Region.ready .any ops (((List.range ops.size).map (S.contains ·)).toArray.setIfInBounds y true) = [x])
    (r4 : Region.ready .any ops ((((List.range ops.size).map (S.contains ·)).toArray.setIfInBounds x true).setIfInBounds y true) = [z]) (r5 : Region.ready .any ops ((((List.range ops.size).map (S.contains ·)).toArray.setIfInBounds y true).setIfInBounds x true) = [z])
    (r6 : Region.ready .any ops (((((List.range ops.size).map (S.contains ·)).toArray.setIfInBounds x true).setIfInBounds y true).setIfInBounds z true) = []) (r7 : Region.ready .any ops (((((List.range ops.size).map (S.contains ·)).toArray.setIfInBounds y true).setIfInBounds x true).setIfInBounds z true) = [])
    (st : ∀ i u w w', i ∈ x :: S → R i u w → Below w.heap.size w w' → R i u w')
    (step : ∀ i a w K, i ∈ x :: S → Fr6 ((x :: S).map (D.getD · 0)) a0 a → Below W.heap.size W w → (∀ k, waitsB .any ops i k = true → R k (a.tmps.getD (D.getD k 0) undef) w) →
      (∀ u w', R i u w' → Below w.heap.size w w' → K (a.put (some (D.getD i 0)) u) w') → wpOp P ops Q i K a w)
    (fin : ∀ a w, Fr6 ((x :: S).map (D.getD · 0)) a0 a → Below W.heap.size W w → (∀ i, i ∈ S → R i (a.tmps.getD (D.getD i 0) undef) w) → (wpOps P ops Q [x, y, z] a w ∧ wpOps P ops Q [y, x, z] a w) ∧ (R x (a.tmps.getD (D.getD x 0) undef) w → wpOps P ops Q [y, z] a w)) :
    (Code.region id ops true).wp P Q a0 W := by
  have memS : ∀ i, i ∈ S → i < ops.size := fun i hi => by
    rw [List.all_eq_true] at hS
    have := hS i hi
    simp only [Bool.and_eq_true, decide_eq_true_eq] at this
    exact this.1.1.1
  have notS : ∀ i, i ∈ S → i ≠ x ∧ i ≠ y ∧ i ≠ z := fun i hi => by
    rw [List.all_eq_true] at hS
    have := hS i hi
    simp only [Bool.and_eq_true, decide_eq_true_eq] at this
    exact ⟨this.1.1.2, this.1.2, this.2⟩
  have memO : ∀ i, i ∈ x :: S → i < ops.size := fun i hi => by
    rcases List.mem_cons.1 hi with rfl | h
    · exact hx.1
    · exact memS i h
  have hlt : ∀ i, i ∈ x :: S → D.getD i 0 < a0.tmps.size := fun i hi => by
    rw [List.all_eq_true] at hin
    simpa using hin i hi
  have hne : ∀ i j, i ∈ x :: S → j ∈ x :: S → i ≠ j → D.getD i 0 ≠ D.getD j 0 := fun i j hi hj h e => by
    obtain ⟨p, hp, hpe⟩ := List.getElem_of_mem hi
    obtain ⟨q, hq, hqe⟩ := List.getElem_of_mem hj
    have h1 : ((x :: S).map (D.getD · 0))[p]'(by simpa using hp) = ((x :: S).map (D.getD · 0))[q]'(by simpa using hq) := by
      rw [List.getElem_map, List.getElem_map, hpe, hqe]; exact e
    have h2 := (List.getElem_inj hnd).1 h1
    subst h2
    exact h (hpe.symm.trans hqe)
  have hmem : ∀ i, i ∈ x :: S → D.getD i 0 ∈ (x :: S).map (D.getD · 0) := fun i hi => List.mem_map.2 ⟨i, hi, rfl⟩
  have hrest : ∀ i, i < ops.size → (x :: S).contains i = false → i = y ∨ i = z := by
    intro i hi hc
    rw [List.all_eq_true] at hn
    have h1 := hn i (List.mem_range.2 hi)
    have h2 : i ∉ x :: S := fun hm => by rw [List.contains_iff_mem.2 hm] at hc; cases hc
    simp only [List.mem_cons, not_or] at h2
    have h3 : S.contains i = false := by
      cases h4 : S.contains i
      · rfl
      · exact absurd (List.contains_iff_mem.1 h4) h2.2
    rw [h3] at h1
    have h5 : (i == x) = false := by simpa using h2.1
    rw [h5] at h1
    simpa using h1
  have yO : (x :: S).contains y = false := by
    cases hc : (x :: S).contains y
    · rfl
    · rcases List.mem_cons.1 (List.contains_iff_mem.1 hc) with h | h
      · exact absurd h.symm hx.2.2.2.1
      · exact absurd rfl (notS y h).2.1
  have zO : (x :: S).contains z = false := by
    cases hc : (x :: S).contains z
    · rfl
    · rcases List.mem_cons.1 (List.contains_iff_mem.1 hc) with h | h
      · exact absurd h.symm hx.2.2.2.2.1
      · exact absurd rfl (notS z h).2.2
  have zz : ∀ j, (Array.replicate ops.size false).getD j false = false := by intro j; simp [Array.getElem?_replicate]; split <;> rfl
  refine wp_region_any hm (wpAny_phaseP (Pb := fun i => S.contains i) (Ob := fun i => (x :: S).contains i) (fun l a w => Fr6 ((x :: S).map (D.getD · 0)) a0 a ∧ Below W.heap.size W w ∧ (∀ i, i ∈ x :: S → l.getD i false = true → R i (a.tmps.getD (D.getD i 0) undef) w)) hb
    ⟨y, hx.2.1, yO⟩ ?_ ?_ ?_ _ _ _ _ ?_ (by simp) ?_ ?_ ?_)
  · intro i hi hc k hk hkp
    rw [List.all_eq_true] at ht
    have hi3 : i ∈ [y, z] := by rcases hrest i hi hc with rfl | rfl <;> simp
    have := ht i hi3
    rw [List.all_eq_true] at this
    exact this k (List.contains_iff_mem.1 hkp)
  · rintro l a w i ⟨hF, hbw, hR⟩ hl hi hip hir
    have hiS := List.contains_iff_mem.1 hip
    have ps : a.tmps.size = a0.tmps.size := hF.2.1
    refine step i a w _ hiS hF hbw (fun k hk => hR k ?_ (waits_spec hk hir)) (fun u w' hu hbb => ⟨hF.put (hmem i hiS) _, hbw.trans (hbb.mono hbw.size), fun j hj hjl => ?_⟩)
    · rw [List.all_eq_true] at hw
      have h1 := hw i hiS
      rw [List.all_eq_true] at h1
      have hks : k < ops.size := by
        rcases Nat.lt_or_ge k ops.size with h | h
        · exact h
        · exfalso
          have := waits_spec hk hir
          have h2 : l.size ≤ k := by omega
          simp [Array.getElem?_eq_none h2] at this
      have h2 := h1 k (List.mem_range.2 hks)
      rw [hk] at h2
      exact List.mem_cons_of_mem _ (List.contains_iff_mem.1 (by simpa using h2))
    · by_cases hij : i = j
      · subst hij; rw [put_same _ _ _ (by rw [ps]; exact hlt i hiS)]; exact hu
      · rw [getD_set_ne false hij] at hjl
        rw [put_other _ _ _ _ (hne i j hiS hj hij)]
        exact st j _ _ _ hj (hR j hj hjl) hbb
  · rintro l a w ⟨hF, hbw, hR⟩ hl hall hno fuel hfu
    have hf := fin a w hF hbw (fun i hi => hR i (List.mem_cons_of_mem _ hi) (hall i (memS i hi) (List.contains_iff_mem.2 hi)))
    have gt : ∀ (m : Array Bool) (j : Nat), j < m.size → m.getD j false = false → m.getD j true = false := by
      intro m j hj h
      simp [hj] at h ⊢; exact h
    have ly := gt l y (by have := hx.2.1; omega) (hno y hx.2.1 yO)
    have lz := gt l z (by have := hx.2.2.1; omega) (hno z hx.2.2.1 zO)
    have hval : ∀ i, i < ops.size → i ≠ x → l.getD i false = S.contains i := by
      intro i hi hix
      cases hc : S.contains i
      · refine hno i hi ?_
        cases hc2 : (x :: S).contains i
        · rfl
        · rcases List.mem_cons.1 (List.contains_iff_mem.1 hc2) with h | h
          · exact absurd h hix
          · rw [List.contains_iff_mem.2 h] at hc; cases hc
      · exact hall i hi hc
    have xS : S.contains x = false := by
      cases hc : S.contains x
      · rfl
      · exact absurd rfl (notS x (List.contains_iff_mem.1 hc)).1
    have two : 2 ≤ still l := by
      have s1 := still_set ly
      have e2 : (l.setIfInBounds y true).getD z true = false := by rw [getD_set_ne true hx.2.2.2.2.2]; exact lz
      have s2 := still_set e2
      omega
    cases hlx : l.getD x false
    · have hlL : l = ((List.range ops.size).map (S.contains ·)).toArray := by
        apply Array.ext
        · simp [hl]
        · intro i h1 h2
          have : l.getD i false = S.contains i := by
            by_cases hix : i = x
            · rw [hix, hlx, xS]
            · exact hval i (by omega) hix
          simp only [Array.getD_eq_getD_getElem?, Array.getElem?_eq_getElem h1, Option.getD_some] at this
          rw [this]; simp
      have lx := gt l x (by have := hx.1; omega) hlx
      have three : 3 ≤ still l := by
        have s1 := still_set lx
        have e1 : (l.setIfInBounds x true).getD y true = false := by rw [getD_set_ne true hx.2.2.2.1]; exact ly
        have s2 := still_set e1
        have e2 : ((l.setIfInBounds x true).setIfInBounds y true).getD z true = false := by rw [getD_set_ne true hx.2.2.2.2.2, getD_set_ne true hx.2.2.2.2.1]; exact lz
        have s3 := still_set e2
        omega
      rw [hlL]
      exact wpAny_late (by omega) r1 r2 r3 r4 r5 r6 r7 hf.1.1 hf.1.2
    · have hlL : l = (((List.range ops.size).map (S.contains ·)).toArray.setIfInBounds x true) := by
        apply Array.ext
        · simp [hl]
        · intro i h1 h2
          by_cases hix : i = x
          · subst hix
            simp only [Array.getD_eq_getD_getElem?, Array.getElem?_eq_getElem h1, Option.getD_some] at hlx
            rw [hlx]; simp
          · have := hval i (by omega) hix
            simp only [Array.getD_eq_getD_getElem?, Array.getElem?_eq_getElem h1, Option.getD_some] at this
            rw [this, Array.getElem_setIfInBounds]
            rw [if_neg (fun e => hix e.symm)]; simp
            exact (by simp; omega)
      rw [hlL]
      exact wpAny_two (by omega) r2 r4 r6 (hf.2 (hR x (List.mem_cons_self ..) hlx))
  · unfold still; exact Nat.le_trans (List.count_le_length) (by simp)
  · exact fun j hj => absurd hj (by rw [zz]; simp)
  · exact fun k _ _ => zz k
  · exact ⟨⟨rfl, rfl, fun _ _ => rfl⟩, ⟨rfl, rfl, rfl, Nat.le_refl _, fun _ _ => rfl⟩, fun i _ hi => absurd hi (by rw [zz]; simp)⟩
end
end Go.Proofs.YtcfoepogbfngmaaDoor
end
