import Derived.Test.YtnfafgpnnpapdaaDoorMB5
section
/-
  dyad.cut.
-/
namespace Go.Proofs.YtnfafgpnnpapdaaDoor
open Go.RowKit
set_option linter.unusedSimpArgs false
set_option linter.unusedVariables false
theorem dg_one {w : World} {g : Nat} {T : TypeId} (h : w.heap[g]? = some (.cells #[.int .u32 1] T (0, 0))) : Dg w (some ⟨g, 0, none⟩) 1 [1] :=
  ⟨Nat.le_refl _, by intro x hx; simp at hx; omega, fun _ => ⟨g, 0, rfl, heap_lt h, fun j hj => by
    have : j = 0 := by simp at hj; omega
    subst this
    exact row_c h rfl⟩⟩
theorem nadd1 {A : Option Addr} {c k g : Nat} {T : TypeId} {w : World} (h : Dg w A c (digs k)) (hl : (digs k).length ≤ 1000000) (hR : w.heap[g]? = some (.cells #[.int .u32 1] T (0, 0))) :
    Calls Tryd.prog 121 #[.slice A (digs k).length c, .slice (some ⟨g, 0, none⟩) 1 1] w fun e w' => ∃ A' c', e = .returned (.slice A' (digs (k + 1)).length c') ∧ Dg w' A' c' (digs (k + 1)) ∧ Below w.heap.size w w' := by
  have := add_any A (some ⟨g, 0, none⟩) c 1 (digs k) [1] w h (dg_one hR) (by omega) (by simp)
  rw [val_digs, show val [1] = 1 from rfl] at this
  exact this
theorem shr_i {A : Option Addr} {c q d : Nat} {i : Int} {w : World} (h : Dg w A c (digs q)) (hl : (digs q).length ≤ 1000000) (hi : i = (d : Int)) (hd : d ≤ 100000000) :
    Calls Tryd.prog 104 #[.slice A (digs q).length c, .int .i64 i] w fun e w' => ∃ A' c', e = .returned (.slice A' (digs (q / 2 ^ d)).length c') ∧ Dg w' A' c' (digs (q / 2 ^ d)) ∧ Below w.heap.size w w' := by
  subst hi
  have := shr_any A c (digs q) d w h (by omega) (by omega)
  rw [val_digs] at this
  exact this
theorem zeros_i {A : Option Addr} {c q : Nat} {t : Int} {w : World} (h : Dg w A c (digs q)) (hl : (digs q).length ≤ 1000000) (h0 : q ≠ 0) (hT : T32 w) (ht : ((tz q : Nat) : Int) = t) :
    Calls Tryd.prog 103 #[.slice A (digs q).length c] w fun e w' => e = .returned (.int .i64 t) ∧ w = w' := by
  have := zeros_any A c (digs q) w h (by rw [val_digs]; exact h0) hl hT
  rw [val_digs, ht] at this
  exact this
theorem tz_low {q d : Nat} (h : q ≠ 0) : decide (tz q < d) = decide (q % 2 ^ d ≠ 0) := by
  rw [decide_eq_decide]
  have ⟨a, b⟩ := tz_spec q h
  constructor
  · intro hlt h0
    have hd : 2 ^ d ∣ q := Nat.dvd_of_mod_eq_zero h0
    have h1 : 2 ^ (tz q + 1) ∣ q := Nat.dvd_trans (Nat.pow_dvd_pow 2 hlt) hd
    obtain ⟨v, hv⟩ := h1
    have key : ∀ (u t v n : Nat), n = u * 2 ^ t → n = 2 ^ (t + 1) * v → u % 2 = 0 := by
      intro u t v n h1 h2
      have h3 : u * 2 ^ t = (2 * v) * 2 ^ t := by rw [← h1, h2, Nat.pow_succ]; grind
      have := Nat.eq_of_mul_eq_mul_right (Nat.pow_pos (by omega)) h3
      omega
    have := key _ _ _ _ b hv
    omega
  · intro h1
    rcases Nat.lt_or_ge (tz q) d with h2 | h2
    · exact h2
    · exfalso; apply h1
      exact Nat.mod_eq_zero_of_dvd (Nat.dvd_trans (Nat.pow_dvd_pow 2 h2) ⟨q / 2 ^ tz q, by rw [Nat.mul_comm]; exact b⟩)

set_option maxHeartbeats 4000000 in
set_option maxRecDepth 100000 in
theorem cut_nna_t (A : Option Addr) (c : Nat) (q : Nat) (y P : Int) (p : Nat) (M E : Int) (w : World) (h : Dg w A c (digs q)) (hl : (digs q).length ≤ 30000) (hT : T32 w) (hP : (p : Int) = P) (p2 : 2 ≤ p) (p4 : p ≤ 400) (hb : p ≤ blen q) (y0 : -900000 ≤ y) (y1 : y ≤ 900000) (hM : nm (sg false (q / 2 ^ (blen q - p))) = M) (hE : nx (sg false (q / 2 ^ (blen q - p))) (y + (blen q - p : Nat)) = E) (hlow : decide (q % 2 ^ (blen q - p) ≠ 0) = false):
    Calls Tryd.prog 83 #[.agg #[.bool false, .slice A (digs q).length c, .int .i64 y], .bool false, .int .i64 P, .bool true] w fun e w' => Yr M E w e w' := by
  have q0 : q ≠ 0 := by rintro rfl; rw [blen_zero] at hb; omega
  have b1 : blen q ≤ 960000 := by have := bl_bd (m := (q : Int)) (k := 30000) (by rw [Int.natAbs_natCast]; exact hl); rwa [Int.natAbs_natCast] at this
  obtain ⟨z, hz⟩ : ∃ z : Int, (blen q : Int) = z := ⟨_, rfl⟩
  obtain ⟨d, hd⟩ : ∃ d : Nat, blen q - p = d := ⟨_, rfl⟩
  rw [hd] at hM hE hlow
  have hzd : z - P = (d : Int) := by omega
  have htl := tz_low (q := q) (d := d) q0
  rw [hlow] at htl
  obtain ⟨t, ht⟩ : ∃ t : Int, ((tz q : Nat) : Int) = t := ⟨_, rfl⟩
  have d1 : decide (t < z - P) = false := by rw [← htl, decide_eq_decide]; omega
  have HTZ := Lib.hid ht
  have z0 : 0 ≤ z := by omega
  have z1 : z ≤ 960000 := by omega
  have pp0 : 2 ≤ P := by omega
  have pp1 : P ≤ 400 := by omega
  have zp0 : 0 ≤ z - P := by omega
  have HZ := Lib.hid hz
  have HZD := Lib.hid hzd
  have LX := Lib.hid hl
  have Q0 := Lib.hid q0
  have hlk := digs_len_mono _ _ (Nat.div_le_self q (2 ^ d))
  have hdk : d ≤ 960000 := by omega
  have hlk1 := digs_add_len (q / 2 ^ d) 1
  have l1 : (digs 1).length = 1 := by rw [digs_one (by omega) (by omega)]; rfl
  have LK1 := Lib.hid (show (digs (q / 2 ^ d + 1)).length ≤ 30001 by omega)
  have LK := Lib.hid (show (digs (q / 2 ^ d)).length ≤ 30000 by omega)
  obtain ⟨k, hk⟩ : ∃ k, q / 2 ^ d = k := ⟨_, rfl⟩
  rw [hk] at hM hE LK LK1
  have HK := Lib.hid hk
  have HM := Lib.hid hM
  have HE := Lib.hid (show nx (sg false (k)) (y + (z - P)) = E by rw [hzd]; exact hE)
  have SHR := Lib.hid (fun W (hW : Dg W A c (digs q)) => shr_i (i := z - P) hW (by omega) hzd (by omega))
  rw [hk] at SHR
  have HT := Lib.hid hT
  clear hT
  have L0 := Lib.hid ((live_start w).add h)
  clear h hl hP hb hz hd hzd q0 hM hE hlk hlk1 l1 hk b1 hlow htl ht
  go_enter Tryd.func83, Tryd.ntmps83
  go_wp2_with fail
  obtain ⟨v1, hW⟩ : ∃ W : World, W = ((w.alloc (.cells #[.bool false, .slice A (digs q).length c, .int .i64 y] 26)).alloc (.cells #[.bool false, .slice none 0 0, .int .i64 0] 26)) := ⟨_, rfl⟩
  rw [← hW]
  have hb : Below w.heap.size w v1 := by rw [hW]; exact (((Below.refl _ _).alloc (by simp <;> omega) _).alloc (by simp <;> omega) _)
  have L1 := Lib.hid (L0.out.step hb)
  have Rx_1 := Lib.hid (show v1.heap[w.heap.size]? = some (.cells #[.bool false, .slice A (digs q).length c, .int .i64 y] 26 (0, 0)) by rw [hW]; have := heap_alloc_new w (.cells #[.bool false, .slice A (digs q).length c, .int .i64 y] 26); rw [heap_alloc_old _ _ (by simp <;> omega)]; simpa using this)
  have Gx : w.heap.size ≤ w.heap.size := by have := L0.out.1.size; omega
  have Rr_1 := Lib.hid (show v1.heap[w.heap.size + 1]? = some (.cells #[.bool false, .slice none 0 0, .int .i64 0] 26 (0, 0)) by rw [hW]; have := heap_alloc_new (w.alloc (.cells #[.bool false, .slice A (digs q).length c, .int .i64 y] 26)) (.cells #[.bool false, .slice none 0 0, .int .i64 0] 26); simpa using this)
  have Gr : w.heap.size ≤ w.heap.size + 1 := by have := L0.out.1.size; omega
  have Nxr : w.heap.size < w.heap.size + 1 := by omega
  clear hW hb
  refine (bits_b (L1.out.get (A := A) (c := c) (xs := digs q) (by simp)) (Nat.le_trans LX.out (by omega)) HZ.out).mono ?_
  rintro e w2 ⟨rfl, rfl⟩
  have fx0 := row_c (i := 0) Rx_1.out rfl
  have zx0 := frozen_of_row _ _ 0 _ _ Rx_1.out
  have fx1 := row_c (i := 1) Rx_1.out rfl
  have zx1 := frozen_of_row _ _ 1 _ _ Rx_1.out
  have fx2 := row_c (i := 2) Rx_1.out rfl
  have zx2 := frozen_of_row _ _ 2 _ _ Rx_1.out
  have xx := heap_lt Rx_1.out
  go_wp2_with fail
  refine (SHR.out _ (L1.out.get (A := A) (c := c) (xs := digs q) (by simp))).mono ?_
  rintro e w3 ⟨A3, c3, rfl, hd, hb⟩
  have L3 := Lib.hid ((L1.out.step hb).add hd)
  clear fx0 zx0 fx1 zx1 fx2 zx2 xx
  have Rx_3 := Lib.hid (cells_of Rx_1.out hb)
  have Rr_3 := Lib.hid (cells_of Rr_1.out hb)
  clear hb hd
  have fx0 := row_c (i := 0) Rx_3.out rfl
  have zx0 := frozen_of_row _ _ 0 _ _ Rx_3.out
  have fx1 := row_c (i := 1) Rx_3.out rfl
  have zx1 := frozen_of_row _ _ 1 _ _ Rx_3.out
  have fx2 := row_c (i := 2) Rx_3.out rfl
  have zx2 := frozen_of_row _ _ 2 _ _ Rx_3.out
  have xx := heap_lt Rx_3.out
  go_wp2_with fail
  refine (zeros_i (L3.out.get (A := A) (c := c) (xs := digs q) (by simp)) (Nat.le_trans LX.out (by omega)) Q0.out (t32_live HT.out L3.out) HTZ.out).mono ?_
  rintro e w4 ⟨rfl, rfl⟩
  clear fx0 zx0 fx1 zx1 fx2 zx2 xx
  have fx0 := row_c (i := 0) Rx_3.out rfl
  have zx0 := frozen_of_row _ _ 0 _ _ Rx_3.out
  have fx1 := row_c (i := 1) Rx_3.out rfl
  have zx1 := frozen_of_row _ _ 1 _ _ Rx_3.out
  have fx2 := row_c (i := 2) Rx_3.out rfl
  have zx2 := frozen_of_row _ _ 2 _ _ Rx_3.out
  have xx := heap_lt Rx_3.out
  clear fx0 zx0 fx1 zx1 fx2 zx2 xx
  have fx0 := row_c (i := 0) Rx_3.out rfl
  have zx0 := frozen_of_row _ _ 0 _ _ Rx_3.out
  have fx1 := row_c (i := 1) Rx_3.out rfl
  have zx1 := frozen_of_row _ _ 1 _ _ Rx_3.out
  have fx2 := row_c (i := 2) Rx_3.out rfl
  have zx2 := frozen_of_row _ _ 2 _ _ Rx_3.out
  have xx := heap_lt Rx_3.out
  go_wp2_with fail
  refine (odd_any A3 c3 false k (y + (z - P)) M E _ (L3.out.get (A := A3) (c := c3) (xs := digs k) (by simp)) (Nat.le_trans LK.out (by omega)) (t32_live HT.out L3.out) ⟨by omega, by omega⟩ HM.out HE.out).mono ?_
  rintro e w5 ⟨A5, c5, rfl, hd, hb⟩
  have L5 := Lib.hid ((L3.out.step hb).add hd)
  clear fx0 zx0 fx1 zx1 fx2 zx2 xx
  have Rx_5 := Lib.hid (cells_of Rx_3.out hb)
  have Rr_5 := Lib.hid (cells_of Rr_3.out hb)
  clear hb hd
  have fr0 := row_c (i := 0) Rr_5.out rfl
  have zr0 := frozen_of_row _ _ 0 _ _ Rr_5.out
  have fr1 := row_c (i := 1) Rr_5.out rfl
  have zr1 := frozen_of_row _ _ 1 _ _ Rr_5.out
  have fr2 := row_c (i := 2) Rr_5.out rfl
  have zr2 := frozen_of_row _ _ 2 _ _ Rr_5.out
  have xr := heap_lt Rr_5.out
  go_wp2
  refine bodyPost_ret (v := .agg #[.bool (decide (M < 0)), .slice A5 (digs M.natAbs).length c5, .int .i64 E]) (by simp [results, Tryd.results83, go_sem, fr0, fr1, fr2]) rfl ?_
  
  refine ⟨A5, c5, rfl, ?_, ?_⟩
  · exact (fin3 L5.out Rr_5.out noint3 Gr).get (A := A5) (c := c5) (xs := digs M.natAbs) (by simp)
  · exact (fin3 L5.out Rr_5.out noint3 Gr).1

set_option maxHeartbeats 4000000 in
set_option maxRecDepth 100000 in
theorem cut_nna_f (A : Option Addr) (c : Nat) (q : Nat) (y P : Int) (p : Nat) (M E : Int) (w : World) (h : Dg w A c (digs q)) (hl : (digs q).length ≤ 30000) (hT : T32 w) (hP : (p : Int) = P) (p2 : 2 ≤ p) (p4 : p ≤ 400) (hb : p ≤ blen q) (y0 : -900000 ≤ y) (y1 : y ≤ 900000) (hM : nm (sg true (q / 2 ^ (blen q - p))) = M) (hE : nx (sg true (q / 2 ^ (blen q - p))) (y + (blen q - p : Nat)) = E) (hlow : decide (q % 2 ^ (blen q - p) ≠ 0) = false):
    Calls Tryd.prog 83 #[.agg #[.bool true, .slice A (digs q).length c, .int .i64 y], .bool false, .int .i64 P, .bool false] w fun e w' => Yr M E w e w' := by
  have q0 : q ≠ 0 := by rintro rfl; rw [blen_zero] at hb; omega
  have b1 : blen q ≤ 960000 := by have := bl_bd (m := (q : Int)) (k := 30000) (by rw [Int.natAbs_natCast]; exact hl); rwa [Int.natAbs_natCast] at this
  obtain ⟨z, hz⟩ : ∃ z : Int, (blen q : Int) = z := ⟨_, rfl⟩
  obtain ⟨d, hd⟩ : ∃ d : Nat, blen q - p = d := ⟨_, rfl⟩
  rw [hd] at hM hE hlow
  have hzd : z - P = (d : Int) := by omega
  have htl := tz_low (q := q) (d := d) q0
  rw [hlow] at htl
  obtain ⟨t, ht⟩ : ∃ t : Int, ((tz q : Nat) : Int) = t := ⟨_, rfl⟩
  have d1 : decide (t < z - P) = false := by rw [← htl, decide_eq_decide]; omega
  have HTZ := Lib.hid ht
  have z0 : 0 ≤ z := by omega
  have z1 : z ≤ 960000 := by omega
  have pp0 : 2 ≤ P := by omega
  have pp1 : P ≤ 400 := by omega
  have zp0 : 0 ≤ z - P := by omega
  have HZ := Lib.hid hz
  have HZD := Lib.hid hzd
  have LX := Lib.hid hl
  have Q0 := Lib.hid q0
  have hlk := digs_len_mono _ _ (Nat.div_le_self q (2 ^ d))
  have hdk : d ≤ 960000 := by omega
  have hlk1 := digs_add_len (q / 2 ^ d) 1
  have l1 : (digs 1).length = 1 := by rw [digs_one (by omega) (by omega)]; rfl
  have LK1 := Lib.hid (show (digs (q / 2 ^ d + 1)).length ≤ 30001 by omega)
  have LK := Lib.hid (show (digs (q / 2 ^ d)).length ≤ 30000 by omega)
  obtain ⟨k, hk⟩ : ∃ k, q / 2 ^ d = k := ⟨_, rfl⟩
  rw [hk] at hM hE LK LK1
  have HK := Lib.hid hk
  have HM := Lib.hid hM
  have HE := Lib.hid (show nx (sg true (k)) (y + (z - P)) = E by rw [hzd]; exact hE)
  have SHR := Lib.hid (fun W (hW : Dg W A c (digs q)) => shr_i (i := z - P) hW (by omega) hzd (by omega))
  rw [hk] at SHR
  have HT := Lib.hid hT
  clear hT
  have L0 := Lib.hid ((live_start w).add h)
  clear h hl hP hb hz hd hzd q0 hM hE hlk hlk1 l1 hk b1 hlow htl ht
  go_enter Tryd.func83, Tryd.ntmps83
  go_wp2_with fail
  obtain ⟨v1, hW⟩ : ∃ W : World, W = ((w.alloc (.cells #[.bool true, .slice A (digs q).length c, .int .i64 y] 26)).alloc (.cells #[.bool false, .slice none 0 0, .int .i64 0] 26)) := ⟨_, rfl⟩
  rw [← hW]
  have hb : Below w.heap.size w v1 := by rw [hW]; exact (((Below.refl _ _).alloc (by simp <;> omega) _).alloc (by simp <;> omega) _)
  have L1 := Lib.hid (L0.out.step hb)
  have Rx_1 := Lib.hid (show v1.heap[w.heap.size]? = some (.cells #[.bool true, .slice A (digs q).length c, .int .i64 y] 26 (0, 0)) by rw [hW]; have := heap_alloc_new w (.cells #[.bool true, .slice A (digs q).length c, .int .i64 y] 26); rw [heap_alloc_old _ _ (by simp <;> omega)]; simpa using this)
  have Gx : w.heap.size ≤ w.heap.size := by have := L0.out.1.size; omega
  have Rr_1 := Lib.hid (show v1.heap[w.heap.size + 1]? = some (.cells #[.bool false, .slice none 0 0, .int .i64 0] 26 (0, 0)) by rw [hW]; have := heap_alloc_new (w.alloc (.cells #[.bool true, .slice A (digs q).length c, .int .i64 y] 26)) (.cells #[.bool false, .slice none 0 0, .int .i64 0] 26); simpa using this)
  have Gr : w.heap.size ≤ w.heap.size + 1 := by have := L0.out.1.size; omega
  have Nxr : w.heap.size < w.heap.size + 1 := by omega
  clear hW hb
  refine (bits_b (L1.out.get (A := A) (c := c) (xs := digs q) (by simp)) (Nat.le_trans LX.out (by omega)) HZ.out).mono ?_
  rintro e w2 ⟨rfl, rfl⟩
  have fx0 := row_c (i := 0) Rx_1.out rfl
  have zx0 := frozen_of_row _ _ 0 _ _ Rx_1.out
  have fx1 := row_c (i := 1) Rx_1.out rfl
  have zx1 := frozen_of_row _ _ 1 _ _ Rx_1.out
  have fx2 := row_c (i := 2) Rx_1.out rfl
  have zx2 := frozen_of_row _ _ 2 _ _ Rx_1.out
  have xx := heap_lt Rx_1.out
  go_wp2_with fail
  refine (SHR.out _ (L1.out.get (A := A) (c := c) (xs := digs q) (by simp))).mono ?_
  rintro e w3 ⟨A3, c3, rfl, hd, hb⟩
  have L3 := Lib.hid ((L1.out.step hb).add hd)
  clear fx0 zx0 fx1 zx1 fx2 zx2 xx
  have Rx_3 := Lib.hid (cells_of Rx_1.out hb)
  have Rr_3 := Lib.hid (cells_of Rr_1.out hb)
  clear hb hd
  have fx0 := row_c (i := 0) Rx_3.out rfl
  have zx0 := frozen_of_row _ _ 0 _ _ Rx_3.out
  have fx1 := row_c (i := 1) Rx_3.out rfl
  have zx1 := frozen_of_row _ _ 1 _ _ Rx_3.out
  have fx2 := row_c (i := 2) Rx_3.out rfl
  have zx2 := frozen_of_row _ _ 2 _ _ Rx_3.out
  have xx := heap_lt Rx_3.out
  go_wp2_with fail
  refine (zeros_i (L3.out.get (A := A) (c := c) (xs := digs q) (by simp)) (Nat.le_trans LX.out (by omega)) Q0.out (t32_live HT.out L3.out) HTZ.out).mono ?_
  rintro e w4 ⟨rfl, rfl⟩
  clear fx0 zx0 fx1 zx1 fx2 zx2 xx
  have fx0 := row_c (i := 0) Rx_3.out rfl
  have zx0 := frozen_of_row _ _ 0 _ _ Rx_3.out
  have fx1 := row_c (i := 1) Rx_3.out rfl
  have zx1 := frozen_of_row _ _ 1 _ _ Rx_3.out
  have fx2 := row_c (i := 2) Rx_3.out rfl
  have zx2 := frozen_of_row _ _ 2 _ _ Rx_3.out
  have xx := heap_lt Rx_3.out
  clear fx0 zx0 fx1 zx1 fx2 zx2 xx
  have fx0 := row_c (i := 0) Rx_3.out rfl
  have zx0 := frozen_of_row _ _ 0 _ _ Rx_3.out
  have fx1 := row_c (i := 1) Rx_3.out rfl
  have zx1 := frozen_of_row _ _ 1 _ _ Rx_3.out
  have fx2 := row_c (i := 2) Rx_3.out rfl
  have zx2 := frozen_of_row _ _ 2 _ _ Rx_3.out
  have xx := heap_lt Rx_3.out
  go_wp2_with fail
  refine (odd_any A3 c3 true k (y + (z - P)) M E _ (L3.out.get (A := A3) (c := c3) (xs := digs k) (by simp)) (Nat.le_trans LK.out (by omega)) (t32_live HT.out L3.out) ⟨by omega, by omega⟩ HM.out HE.out).mono ?_
  rintro e w5 ⟨A5, c5, rfl, hd, hb⟩
  have L5 := Lib.hid ((L3.out.step hb).add hd)
  clear fx0 zx0 fx1 zx1 fx2 zx2 xx
  have Rx_5 := Lib.hid (cells_of Rx_3.out hb)
  have Rr_5 := Lib.hid (cells_of Rr_3.out hb)
  clear hb hd
  have fr0 := row_c (i := 0) Rr_5.out rfl
  have zr0 := frozen_of_row _ _ 0 _ _ Rr_5.out
  have fr1 := row_c (i := 1) Rr_5.out rfl
  have zr1 := frozen_of_row _ _ 1 _ _ Rr_5.out
  have fr2 := row_c (i := 2) Rr_5.out rfl
  have zr2 := frozen_of_row _ _ 2 _ _ Rr_5.out
  have xr := heap_lt Rr_5.out
  go_wp2
  refine bodyPost_ret (v := .agg #[.bool (decide (M < 0)), .slice A5 (digs M.natAbs).length c5, .int .i64 E]) (by simp [results, Tryd.results83, go_sem, fr0, fr1, fr2]) rfl ?_
  
  refine ⟨A5, c5, rfl, ?_, ?_⟩
  · exact (fin3 L5.out Rr_5.out noint3 Gr).get (A := A5) (c := c5) (xs := digs M.natAbs) (by simp)
  · exact (fin3 L5.out Rr_5.out noint3 Gr).1

set_option maxHeartbeats 4000000 in
set_option maxRecDepth 100000 in
theorem cut_nnf_t (A : Option Addr) (c : Nat) (q : Nat) (y P : Int) (p : Nat) (M E : Int) (w : World) (h : Dg w A c (digs q)) (hl : (digs q).length ≤ 30000) (hT : T32 w) (hP : (p : Int) = P) (p2 : 2 ≤ p) (p4 : p ≤ 400) (hb : p ≤ blen q) (y0 : -900000 ≤ y) (y1 : y ≤ 900000) (hM : nm (sg true (q / 2 ^ (blen q - p))) = M) (hE : nx (sg true (q / 2 ^ (blen q - p))) (y + (blen q - p : Nat)) = E) (hlow : decide (q % 2 ^ (blen q - p) ≠ 0) = false):
    Calls Tryd.prog 83 #[.agg #[.bool true, .slice A (digs q).length c, .int .i64 y], .bool false, .int .i64 P, .bool true] w fun e w' => Yr M E w e w' := by
  have q0 : q ≠ 0 := by rintro rfl; rw [blen_zero] at hb; omega
  have b1 : blen q ≤ 960000 := by have := bl_bd (m := (q : Int)) (k := 30000) (by rw [Int.natAbs_natCast]; exact hl); rwa [Int.natAbs_natCast] at this
  obtain ⟨z, hz⟩ : ∃ z : Int, (blen q : Int) = z := ⟨_, rfl⟩
  obtain ⟨d, hd⟩ : ∃ d : Nat, blen q - p = d := ⟨_, rfl⟩
  rw [hd] at hM hE hlow
  have hzd : z - P = (d : Int) := by omega
  have htl := tz_low (q := q) (d := d) q0
  rw [hlow] at htl
  obtain ⟨t, ht⟩ : ∃ t : Int, ((tz q : Nat) : Int) = t := ⟨_, rfl⟩
  have d1 : decide (t < z - P) = false := by rw [← htl, decide_eq_decide]; omega
  have HTZ := Lib.hid ht
  have z0 : 0 ≤ z := by omega
  have z1 : z ≤ 960000 := by omega
  have pp0 : 2 ≤ P := by omega
  have pp1 : P ≤ 400 := by omega
  have zp0 : 0 ≤ z - P := by omega
  have HZ := Lib.hid hz
  have HZD := Lib.hid hzd
  have LX := Lib.hid hl
  have Q0 := Lib.hid q0
  have hlk := digs_len_mono _ _ (Nat.div_le_self q (2 ^ d))
  have hdk : d ≤ 960000 := by omega
  have hlk1 := digs_add_len (q / 2 ^ d) 1
  have l1 : (digs 1).length = 1 := by rw [digs_one (by omega) (by omega)]; rfl
  have LK1 := Lib.hid (show (digs (q / 2 ^ d + 1)).length ≤ 30001 by omega)
  have LK := Lib.hid (show (digs (q / 2 ^ d)).length ≤ 30000 by omega)
  obtain ⟨k, hk⟩ : ∃ k, q / 2 ^ d = k := ⟨_, rfl⟩
  rw [hk] at hM hE LK LK1
  have HK := Lib.hid hk
  have HM := Lib.hid hM
  have HE := Lib.hid (show nx (sg true (k)) (y + (z - P)) = E by rw [hzd]; exact hE)
  have SHR := Lib.hid (fun W (hW : Dg W A c (digs q)) => shr_i (i := z - P) hW (by omega) hzd (by omega))
  rw [hk] at SHR
  have HT := Lib.hid hT
  clear hT
  have L0 := Lib.hid ((live_start w).add h)
  clear h hl hP hb hz hd hzd q0 hM hE hlk hlk1 l1 hk b1 hlow htl ht
  go_enter Tryd.func83, Tryd.ntmps83
  go_wp2_with fail
  obtain ⟨v1, hW⟩ : ∃ W : World, W = ((w.alloc (.cells #[.bool true, .slice A (digs q).length c, .int .i64 y] 26)).alloc (.cells #[.bool false, .slice none 0 0, .int .i64 0] 26)) := ⟨_, rfl⟩
  rw [← hW]
  have hb : Below w.heap.size w v1 := by rw [hW]; exact (((Below.refl _ _).alloc (by simp <;> omega) _).alloc (by simp <;> omega) _)
  have L1 := Lib.hid (L0.out.step hb)
  have Rx_1 := Lib.hid (show v1.heap[w.heap.size]? = some (.cells #[.bool true, .slice A (digs q).length c, .int .i64 y] 26 (0, 0)) by rw [hW]; have := heap_alloc_new w (.cells #[.bool true, .slice A (digs q).length c, .int .i64 y] 26); rw [heap_alloc_old _ _ (by simp <;> omega)]; simpa using this)
  have Gx : w.heap.size ≤ w.heap.size := by have := L0.out.1.size; omega
  have Rr_1 := Lib.hid (show v1.heap[w.heap.size + 1]? = some (.cells #[.bool false, .slice none 0 0, .int .i64 0] 26 (0, 0)) by rw [hW]; have := heap_alloc_new (w.alloc (.cells #[.bool true, .slice A (digs q).length c, .int .i64 y] 26)) (.cells #[.bool false, .slice none 0 0, .int .i64 0] 26); simpa using this)
  have Gr : w.heap.size ≤ w.heap.size + 1 := by have := L0.out.1.size; omega
  have Nxr : w.heap.size < w.heap.size + 1 := by omega
  clear hW hb
  refine (bits_b (L1.out.get (A := A) (c := c) (xs := digs q) (by simp)) (Nat.le_trans LX.out (by omega)) HZ.out).mono ?_
  rintro e w2 ⟨rfl, rfl⟩
  have fx0 := row_c (i := 0) Rx_1.out rfl
  have zx0 := frozen_of_row _ _ 0 _ _ Rx_1.out
  have fx1 := row_c (i := 1) Rx_1.out rfl
  have zx1 := frozen_of_row _ _ 1 _ _ Rx_1.out
  have fx2 := row_c (i := 2) Rx_1.out rfl
  have zx2 := frozen_of_row _ _ 2 _ _ Rx_1.out
  have xx := heap_lt Rx_1.out
  go_wp2_with fail
  refine (SHR.out _ (L1.out.get (A := A) (c := c) (xs := digs q) (by simp))).mono ?_
  rintro e w3 ⟨A3, c3, rfl, hd, hb⟩
  have L3 := Lib.hid ((L1.out.step hb).add hd)
  clear fx0 zx0 fx1 zx1 fx2 zx2 xx
  have Rx_3 := Lib.hid (cells_of Rx_1.out hb)
  have Rr_3 := Lib.hid (cells_of Rr_1.out hb)
  clear hb hd
  have fx0 := row_c (i := 0) Rx_3.out rfl
  have zx0 := frozen_of_row _ _ 0 _ _ Rx_3.out
  have fx1 := row_c (i := 1) Rx_3.out rfl
  have zx1 := frozen_of_row _ _ 1 _ _ Rx_3.out
  have fx2 := row_c (i := 2) Rx_3.out rfl
  have zx2 := frozen_of_row _ _ 2 _ _ Rx_3.out
  have xx := heap_lt Rx_3.out
  go_wp2_with fail
  refine (zeros_i (L3.out.get (A := A) (c := c) (xs := digs q) (by simp)) (Nat.le_trans LX.out (by omega)) Q0.out (t32_live HT.out L3.out) HTZ.out).mono ?_
  rintro e w4 ⟨rfl, rfl⟩
  clear fx0 zx0 fx1 zx1 fx2 zx2 xx
  have fx0 := row_c (i := 0) Rx_3.out rfl
  have zx0 := frozen_of_row _ _ 0 _ _ Rx_3.out
  have fx1 := row_c (i := 1) Rx_3.out rfl
  have zx1 := frozen_of_row _ _ 1 _ _ Rx_3.out
  have fx2 := row_c (i := 2) Rx_3.out rfl
  have zx2 := frozen_of_row _ _ 2 _ _ Rx_3.out
  have xx := heap_lt Rx_3.out
  clear fx0 zx0 fx1 zx1 fx2 zx2 xx
  have fx0 := row_c (i := 0) Rx_3.out rfl
  have zx0 := frozen_of_row _ _ 0 _ _ Rx_3.out
  have fx1 := row_c (i := 1) Rx_3.out rfl
  have zx1 := frozen_of_row _ _ 1 _ _ Rx_3.out
  have fx2 := row_c (i := 2) Rx_3.out rfl
  have zx2 := frozen_of_row _ _ 2 _ _ Rx_3.out
  have xx := heap_lt Rx_3.out
  go_wp2_with fail
  refine (odd_any A3 c3 true k (y + (z - P)) M E _ (L3.out.get (A := A3) (c := c3) (xs := digs k) (by simp)) (Nat.le_trans LK.out (by omega)) (t32_live HT.out L3.out) ⟨by omega, by omega⟩ HM.out HE.out).mono ?_
  rintro e w5 ⟨A5, c5, rfl, hd, hb⟩
  have L5 := Lib.hid ((L3.out.step hb).add hd)
  clear fx0 zx0 fx1 zx1 fx2 zx2 xx
  have Rx_5 := Lib.hid (cells_of Rx_3.out hb)
  have Rr_5 := Lib.hid (cells_of Rr_3.out hb)
  clear hb hd
  have fr0 := row_c (i := 0) Rr_5.out rfl
  have zr0 := frozen_of_row _ _ 0 _ _ Rr_5.out
  have fr1 := row_c (i := 1) Rr_5.out rfl
  have zr1 := frozen_of_row _ _ 1 _ _ Rr_5.out
  have fr2 := row_c (i := 2) Rr_5.out rfl
  have zr2 := frozen_of_row _ _ 2 _ _ Rr_5.out
  have xr := heap_lt Rr_5.out
  go_wp2
  refine bodyPost_ret (v := .agg #[.bool (decide (M < 0)), .slice A5 (digs M.natAbs).length c5, .int .i64 E]) (by simp [results, Tryd.results83, go_sem, fr0, fr1, fr2]) rfl ?_
  
  refine ⟨A5, c5, rfl, ?_, ?_⟩
  · exact (fin3 L5.out Rr_5.out noint3 Gr).get (A := A5) (c := c5) (xs := digs M.natAbs) (by simp)
  · exact (fin3 L5.out Rr_5.out noint3 Gr).1

set_option maxHeartbeats 4000000 in
set_option maxRecDepth 100000 in
theorem cut_nnf_f (A : Option Addr) (c : Nat) (q : Nat) (y P : Int) (p : Nat) (M E : Int) (w : World) (h : Dg w A c (digs q)) (hl : (digs q).length ≤ 30000) (hT : T32 w) (hP : (p : Int) = P) (p2 : 2 ≤ p) (p4 : p ≤ 400) (hb : p ≤ blen q) (y0 : -900000 ≤ y) (y1 : y ≤ 900000) (hM : nm (sg false (q / 2 ^ (blen q - p))) = M) (hE : nx (sg false (q / 2 ^ (blen q - p))) (y + (blen q - p : Nat)) = E) (hlow : decide (q % 2 ^ (blen q - p) ≠ 0) = false):
    Calls Tryd.prog 83 #[.agg #[.bool false, .slice A (digs q).length c, .int .i64 y], .bool false, .int .i64 P, .bool false] w fun e w' => Yr M E w e w' := by
  have q0 : q ≠ 0 := by rintro rfl; rw [blen_zero] at hb; omega
  have b1 : blen q ≤ 960000 := by have := bl_bd (m := (q : Int)) (k := 30000) (by rw [Int.natAbs_natCast]; exact hl); rwa [Int.natAbs_natCast] at this
  obtain ⟨z, hz⟩ : ∃ z : Int, (blen q : Int) = z := ⟨_, rfl⟩
  obtain ⟨d, hd⟩ : ∃ d : Nat, blen q - p = d := ⟨_, rfl⟩
  rw [hd] at hM hE hlow
  have hzd : z - P = (d : Int) := by omega
  have htl := tz_low (q := q) (d := d) q0
  rw [hlow] at htl
  obtain ⟨t, ht⟩ : ∃ t : Int, ((tz q : Nat) : Int) = t := ⟨_, rfl⟩
  have d1 : decide (t < z - P) = false := by rw [← htl, decide_eq_decide]; omega
  have HTZ := Lib.hid ht
  have z0 : 0 ≤ z := by omega
  have z1 : z ≤ 960000 := by omega
  have pp0 : 2 ≤ P := by omega
  have pp1 : P ≤ 400 := by omega
  have zp0 : 0 ≤ z - P := by omega
  have HZ := Lib.hid hz
  have HZD := Lib.hid hzd
  have LX := Lib.hid hl
  have Q0 := Lib.hid q0
  have hlk := digs_len_mono _ _ (Nat.div_le_self q (2 ^ d))
  have hdk : d ≤ 960000 := by omega
  have hlk1 := digs_add_len (q / 2 ^ d) 1
  have l1 : (digs 1).length = 1 := by rw [digs_one (by omega) (by omega)]; rfl
  have LK1 := Lib.hid (show (digs (q / 2 ^ d + 1)).length ≤ 30001 by omega)
  have LK := Lib.hid (show (digs (q / 2 ^ d)).length ≤ 30000 by omega)
  obtain ⟨k, hk⟩ : ∃ k, q / 2 ^ d = k := ⟨_, rfl⟩
  rw [hk] at hM hE LK LK1
  have HK := Lib.hid hk
  have HM := Lib.hid hM
  have HE := Lib.hid (show nx (sg false (k)) (y + (z - P)) = E by rw [hzd]; exact hE)
  have SHR := Lib.hid (fun W (hW : Dg W A c (digs q)) => shr_i (i := z - P) hW (by omega) hzd (by omega))
  rw [hk] at SHR
  have HT := Lib.hid hT
  clear hT
  have L0 := Lib.hid ((live_start w).add h)
  clear h hl hP hb hz hd hzd q0 hM hE hlk hlk1 l1 hk b1 hlow htl ht
  go_enter Tryd.func83, Tryd.ntmps83
  go_wp2_with fail
  obtain ⟨v1, hW⟩ : ∃ W : World, W = ((w.alloc (.cells #[.bool false, .slice A (digs q).length c, .int .i64 y] 26)).alloc (.cells #[.bool false, .slice none 0 0, .int .i64 0] 26)) := ⟨_, rfl⟩
  rw [← hW]
  have hb : Below w.heap.size w v1 := by rw [hW]; exact (((Below.refl _ _).alloc (by simp <;> omega) _).alloc (by simp <;> omega) _)
  have L1 := Lib.hid (L0.out.step hb)
  have Rx_1 := Lib.hid (show v1.heap[w.heap.size]? = some (.cells #[.bool false, .slice A (digs q).length c, .int .i64 y] 26 (0, 0)) by rw [hW]; have := heap_alloc_new w (.cells #[.bool false, .slice A (digs q).length c, .int .i64 y] 26); rw [heap_alloc_old _ _ (by simp <;> omega)]; simpa using this)
  have Gx : w.heap.size ≤ w.heap.size := by have := L0.out.1.size; omega
  have Rr_1 := Lib.hid (show v1.heap[w.heap.size + 1]? = some (.cells #[.bool false, .slice none 0 0, .int .i64 0] 26 (0, 0)) by rw [hW]; have := heap_alloc_new (w.alloc (.cells #[.bool false, .slice A (digs q).length c, .int .i64 y] 26)) (.cells #[.bool false, .slice none 0 0, .int .i64 0] 26); simpa using this)
  have Gr : w.heap.size ≤ w.heap.size + 1 := by have := L0.out.1.size; omega
  have Nxr : w.heap.size < w.heap.size + 1 := by omega
  clear hW hb
  refine (bits_b (L1.out.get (A := A) (c := c) (xs := digs q) (by simp)) (Nat.le_trans LX.out (by omega)) HZ.out).mono ?_
  rintro e w2 ⟨rfl, rfl⟩
  have fx0 := row_c (i := 0) Rx_1.out rfl
  have zx0 := frozen_of_row _ _ 0 _ _ Rx_1.out
  have fx1 := row_c (i := 1) Rx_1.out rfl
  have zx1 := frozen_of_row _ _ 1 _ _ Rx_1.out
  have fx2 := row_c (i := 2) Rx_1.out rfl
  have zx2 := frozen_of_row _ _ 2 _ _ Rx_1.out
  have xx := heap_lt Rx_1.out
  go_wp2_with fail
  refine (SHR.out _ (L1.out.get (A := A) (c := c) (xs := digs q) (by simp))).mono ?_
  rintro e w3 ⟨A3, c3, rfl, hd, hb⟩
  have L3 := Lib.hid ((L1.out.step hb).add hd)
  clear fx0 zx0 fx1 zx1 fx2 zx2 xx
  have Rx_3 := Lib.hid (cells_of Rx_1.out hb)
  have Rr_3 := Lib.hid (cells_of Rr_1.out hb)
  clear hb hd
  have fx0 := row_c (i := 0) Rx_3.out rfl
  have zx0 := frozen_of_row _ _ 0 _ _ Rx_3.out
  have fx1 := row_c (i := 1) Rx_3.out rfl
  have zx1 := frozen_of_row _ _ 1 _ _ Rx_3.out
  have fx2 := row_c (i := 2) Rx_3.out rfl
  have zx2 := frozen_of_row _ _ 2 _ _ Rx_3.out
  have xx := heap_lt Rx_3.out
  go_wp2_with fail
  refine (zeros_i (L3.out.get (A := A) (c := c) (xs := digs q) (by simp)) (Nat.le_trans LX.out (by omega)) Q0.out (t32_live HT.out L3.out) HTZ.out).mono ?_
  rintro e w4 ⟨rfl, rfl⟩
  clear fx0 zx0 fx1 zx1 fx2 zx2 xx
  have fx0 := row_c (i := 0) Rx_3.out rfl
  have zx0 := frozen_of_row _ _ 0 _ _ Rx_3.out
  have fx1 := row_c (i := 1) Rx_3.out rfl
  have zx1 := frozen_of_row _ _ 1 _ _ Rx_3.out
  have fx2 := row_c (i := 2) Rx_3.out rfl
  have zx2 := frozen_of_row _ _ 2 _ _ Rx_3.out
  have xx := heap_lt Rx_3.out
  clear fx0 zx0 fx1 zx1 fx2 zx2 xx
  have fx0 := row_c (i := 0) Rx_3.out rfl
  have zx0 := frozen_of_row _ _ 0 _ _ Rx_3.out
  have fx1 := row_c (i := 1) Rx_3.out rfl
  have zx1 := frozen_of_row _ _ 1 _ _ Rx_3.out
  have fx2 := row_c (i := 2) Rx_3.out rfl
  have zx2 := frozen_of_row _ _ 2 _ _ Rx_3.out
  have xx := heap_lt Rx_3.out
  go_wp2_with fail
  refine (odd_any A3 c3 false k (y + (z - P)) M E _ (L3.out.get (A := A3) (c := c3) (xs := digs k) (by simp)) (Nat.le_trans LK.out (by omega)) (t32_live HT.out L3.out) ⟨by omega, by omega⟩ HM.out HE.out).mono ?_
  rintro e w5 ⟨A5, c5, rfl, hd, hb⟩
  have L5 := Lib.hid ((L3.out.step hb).add hd)
  clear fx0 zx0 fx1 zx1 fx2 zx2 xx
  have Rx_5 := Lib.hid (cells_of Rx_3.out hb)
  have Rr_5 := Lib.hid (cells_of Rr_3.out hb)
  clear hb hd
  have fr0 := row_c (i := 0) Rr_5.out rfl
  have zr0 := frozen_of_row _ _ 0 _ _ Rr_5.out
  have fr1 := row_c (i := 1) Rr_5.out rfl
  have zr1 := frozen_of_row _ _ 1 _ _ Rr_5.out
  have fr2 := row_c (i := 2) Rr_5.out rfl
  have zr2 := frozen_of_row _ _ 2 _ _ Rr_5.out
  have xr := heap_lt Rr_5.out
  go_wp2
  refine bodyPost_ret (v := .agg #[.bool (decide (M < 0)), .slice A5 (digs M.natAbs).length c5, .int .i64 E]) (by simp [results, Tryd.results83, go_sem, fr0, fr1, fr2]) rfl ?_
  
  refine ⟨A5, c5, rfl, ?_, ?_⟩
  · exact (fin3 L5.out Rr_5.out noint3 Gr).get (A := A5) (c := c5) (xs := digs M.natAbs) (by simp)
  · exact (fin3 L5.out Rr_5.out noint3 Gr).1

set_option maxHeartbeats 4000000 in
set_option maxRecDepth 100000 in
theorem cut_nla_t (A : Option Addr) (c : Nat) (q : Nat) (y P : Int) (p : Nat) (M E : Int) (w : World) (h : Dg w A c (digs q)) (hl : (digs q).length ≤ 30000) (hT : T32 w) (hP : (p : Int) = P) (p2 : 2 ≤ p) (p4 : p ≤ 400) (hb : p ≤ blen q) (y0 : -900000 ≤ y) (y1 : y ≤ 900000) (hM : nm (sg false (q / 2 ^ (blen q - p) + 1)) = M) (hE : nx (sg false (q / 2 ^ (blen q - p) + 1)) (y + (blen q - p : Nat)) = E) (hlow : decide (q % 2 ^ (blen q - p) ≠ 0) = true):
    Calls Tryd.prog 83 #[.agg #[.bool false, .slice A (digs q).length c, .int .i64 y], .bool false, .int .i64 P, .bool true] w fun e w' => Yr M E w e w' := by
  have q0 : q ≠ 0 := by rintro rfl; rw [blen_zero] at hb; omega
  have b1 : blen q ≤ 960000 := by have := bl_bd (m := (q : Int)) (k := 30000) (by rw [Int.natAbs_natCast]; exact hl); rwa [Int.natAbs_natCast] at this
  obtain ⟨z, hz⟩ : ∃ z : Int, (blen q : Int) = z := ⟨_, rfl⟩
  obtain ⟨d, hd⟩ : ∃ d : Nat, blen q - p = d := ⟨_, rfl⟩
  rw [hd] at hM hE hlow
  have hzd : z - P = (d : Int) := by omega
  have htl := tz_low (q := q) (d := d) q0
  rw [hlow] at htl
  obtain ⟨t, ht⟩ : ∃ t : Int, ((tz q : Nat) : Int) = t := ⟨_, rfl⟩
  have d1 : decide (t < z - P) = true := by rw [← htl, decide_eq_decide]; omega
  have HTZ := Lib.hid ht
  have z0 : 0 ≤ z := by omega
  have z1 : z ≤ 960000 := by omega
  have pp0 : 2 ≤ P := by omega
  have pp1 : P ≤ 400 := by omega
  have zp0 : 0 ≤ z - P := by omega
  have HZ := Lib.hid hz
  have HZD := Lib.hid hzd
  have LX := Lib.hid hl
  have Q0 := Lib.hid q0
  have hlk := digs_len_mono _ _ (Nat.div_le_self q (2 ^ d))
  have hdk : d ≤ 960000 := by omega
  have hlk1 := digs_add_len (q / 2 ^ d) 1
  have l1 : (digs 1).length = 1 := by rw [digs_one (by omega) (by omega)]; rfl
  have LK1 := Lib.hid (show (digs (q / 2 ^ d + 1)).length ≤ 30001 by omega)
  have LK := Lib.hid (show (digs (q / 2 ^ d)).length ≤ 30000 by omega)
  obtain ⟨k, hk⟩ : ∃ k, q / 2 ^ d = k := ⟨_, rfl⟩
  rw [hk] at hM hE LK LK1
  have HK := Lib.hid hk
  have HM := Lib.hid hM
  have HE := Lib.hid (show nx (sg false (k + 1)) (y + (z - P)) = E by rw [hzd]; exact hE)
  have SHR := Lib.hid (fun W (hW : Dg W A c (digs q)) => shr_i (i := z - P) hW (by omega) hzd (by omega))
  rw [hk] at SHR
  have HT := Lib.hid hT
  clear hT
  have L0 := Lib.hid ((live_start w).add h)
  clear h hl hP hb hz hd hzd q0 hM hE hlk hlk1 l1 hk b1 hlow htl ht
  go_enter Tryd.func83, Tryd.ntmps83
  go_wp2_with fail
  obtain ⟨v1, hW⟩ : ∃ W : World, W = ((w.alloc (.cells #[.bool false, .slice A (digs q).length c, .int .i64 y] 26)).alloc (.cells #[.bool false, .slice none 0 0, .int .i64 0] 26)) := ⟨_, rfl⟩
  rw [← hW]
  have hb : Below w.heap.size w v1 := by rw [hW]; exact (((Below.refl _ _).alloc (by simp <;> omega) _).alloc (by simp <;> omega) _)
  have L1 := Lib.hid (L0.out.step hb)
  have Rx_1 := Lib.hid (show v1.heap[w.heap.size]? = some (.cells #[.bool false, .slice A (digs q).length c, .int .i64 y] 26 (0, 0)) by rw [hW]; have := heap_alloc_new w (.cells #[.bool false, .slice A (digs q).length c, .int .i64 y] 26); rw [heap_alloc_old _ _ (by simp <;> omega)]; simpa using this)
  have Gx : w.heap.size ≤ w.heap.size := by have := L0.out.1.size; omega
  have Rr_1 := Lib.hid (show v1.heap[w.heap.size + 1]? = some (.cells #[.bool false, .slice none 0 0, .int .i64 0] 26 (0, 0)) by rw [hW]; have := heap_alloc_new (w.alloc (.cells #[.bool false, .slice A (digs q).length c, .int .i64 y] 26)) (.cells #[.bool false, .slice none 0 0, .int .i64 0] 26); simpa using this)
  have Gr : w.heap.size ≤ w.heap.size + 1 := by have := L0.out.1.size; omega
  have Nxr : w.heap.size < w.heap.size + 1 := by omega
  clear hW hb
  refine (bits_b (L1.out.get (A := A) (c := c) (xs := digs q) (by simp)) (Nat.le_trans LX.out (by omega)) HZ.out).mono ?_
  rintro e w2 ⟨rfl, rfl⟩
  have fx0 := row_c (i := 0) Rx_1.out rfl
  have zx0 := frozen_of_row _ _ 0 _ _ Rx_1.out
  have fx1 := row_c (i := 1) Rx_1.out rfl
  have zx1 := frozen_of_row _ _ 1 _ _ Rx_1.out
  have fx2 := row_c (i := 2) Rx_1.out rfl
  have zx2 := frozen_of_row _ _ 2 _ _ Rx_1.out
  have xx := heap_lt Rx_1.out
  go_wp2_with fail
  refine (SHR.out _ (L1.out.get (A := A) (c := c) (xs := digs q) (by simp))).mono ?_
  rintro e w3 ⟨A3, c3, rfl, hd, hb⟩
  have L3 := Lib.hid ((L1.out.step hb).add hd)
  clear fx0 zx0 fx1 zx1 fx2 zx2 xx
  have Rx_3 := Lib.hid (cells_of Rx_1.out hb)
  have Rr_3 := Lib.hid (cells_of Rr_1.out hb)
  clear hb hd
  have fx0 := row_c (i := 0) Rx_3.out rfl
  have zx0 := frozen_of_row _ _ 0 _ _ Rx_3.out
  have fx1 := row_c (i := 1) Rx_3.out rfl
  have zx1 := frozen_of_row _ _ 1 _ _ Rx_3.out
  have fx2 := row_c (i := 2) Rx_3.out rfl
  have zx2 := frozen_of_row _ _ 2 _ _ Rx_3.out
  have xx := heap_lt Rx_3.out
  go_wp2_with fail
  refine (zeros_i (L3.out.get (A := A) (c := c) (xs := digs q) (by simp)) (Nat.le_trans LX.out (by omega)) Q0.out (t32_live HT.out L3.out) HTZ.out).mono ?_
  rintro e w4 ⟨rfl, rfl⟩
  clear fx0 zx0 fx1 zx1 fx2 zx2 xx
  have fx0 := row_c (i := 0) Rx_3.out rfl
  have zx0 := frozen_of_row _ _ 0 _ _ Rx_3.out
  have fx1 := row_c (i := 1) Rx_3.out rfl
  have zx1 := frozen_of_row _ _ 1 _ _ Rx_3.out
  have fx2 := row_c (i := 2) Rx_3.out rfl
  have zx2 := frozen_of_row _ _ 2 _ _ Rx_3.out
  have xx := heap_lt Rx_3.out
  go_wp2_with fail
  obtain ⟨w5, hW⟩ : ∃ W : World, W = (w3.alloc (.cells #[.int .u32 1] 67)) := ⟨_, rfl⟩
  rw [← hW]
  have hb : Below w3.heap.size w3 w5 := by rw [hW]; exact ((Below.refl _ _).alloc (by simp <;> omega) _)
  have L5 := Lib.hid (L3.out.step hb)
  have Rx_5 := Lib.hid (cells_of Rx_3.out hb)
  have Rr_5 := Lib.hid (cells_of Rr_3.out hb)
  have Rone_5 := Lib.hid (show w5.heap[w3.heap.size]? = some (.cells #[.int .u32 1] 67 (0, 0)) by rw [hW]; have := heap_alloc_new w3 (.cells #[.int .u32 1] 67); simpa using this)
  have Gone : w.heap.size ≤ w3.heap.size := by have := L3.out.1.size; omega
  have Nxone : w.heap.size < w3.heap.size := by have := heap_lt Rx_3.out; omega
  have Nrone : w.heap.size + 1 < w3.heap.size := by have := heap_lt Rr_3.out; omega
  clear hW hb
  clear fx0 zx0 fx1 zx1 fx2 zx2 xx
  refine (nadd1 (L5.out.get (A := A3) (c := c3) (xs := digs k) (by simp)) (Nat.le_trans LK.out (by omega)) Rone_5.out).mono ?_
  rintro e w6 ⟨A6, c6, rfl, hd, hb⟩
  have L6 := Lib.hid ((L5.out.step hb).add hd)
  have Rx_6 := Lib.hid (cells_of Rx_5.out hb)
  have Rr_6 := Lib.hid (cells_of Rr_5.out hb)
  have Rone_6 := Lib.hid (cells_of Rone_5.out hb)
  clear hb hd
  have fx0 := row_c (i := 0) Rx_6.out rfl
  have zx0 := frozen_of_row _ _ 0 _ _ Rx_6.out
  have fx1 := row_c (i := 1) Rx_6.out rfl
  have zx1 := frozen_of_row _ _ 1 _ _ Rx_6.out
  have fx2 := row_c (i := 2) Rx_6.out rfl
  have zx2 := frozen_of_row _ _ 2 _ _ Rx_6.out
  have xx := heap_lt Rx_6.out
  clear fx0 zx0 fx1 zx1 fx2 zx2 xx
  have fx0 := row_c (i := 0) Rx_6.out rfl
  have zx0 := frozen_of_row _ _ 0 _ _ Rx_6.out
  have fx1 := row_c (i := 1) Rx_6.out rfl
  have zx1 := frozen_of_row _ _ 1 _ _ Rx_6.out
  have fx2 := row_c (i := 2) Rx_6.out rfl
  have zx2 := frozen_of_row _ _ 2 _ _ Rx_6.out
  have xx := heap_lt Rx_6.out
  go_wp2_with fail
  refine (odd_any A6 c6 false (k + 1) (y + (z - P)) M E _ (L6.out.get (A := A6) (c := c6) (xs := digs (k + 1)) (by simp)) (Nat.le_trans LK1.out (by omega)) (t32_live HT.out L6.out) ⟨by omega, by omega⟩ HM.out HE.out).mono ?_
  rintro e w7 ⟨A7, c7, rfl, hd, hb⟩
  have L7 := Lib.hid ((L6.out.step hb).add hd)
  clear fx0 zx0 fx1 zx1 fx2 zx2 xx
  have Rx_7 := Lib.hid (cells_of Rx_6.out hb)
  have Rr_7 := Lib.hid (cells_of Rr_6.out hb)
  have Rone_7 := Lib.hid (cells_of Rone_6.out hb)
  clear hb hd
  have fr0 := row_c (i := 0) Rr_7.out rfl
  have zr0 := frozen_of_row _ _ 0 _ _ Rr_7.out
  have fr1 := row_c (i := 1) Rr_7.out rfl
  have zr1 := frozen_of_row _ _ 1 _ _ Rr_7.out
  have fr2 := row_c (i := 2) Rr_7.out rfl
  have zr2 := frozen_of_row _ _ 2 _ _ Rr_7.out
  have xr := heap_lt Rr_7.out
  go_wp2
  refine bodyPost_ret (v := .agg #[.bool (decide (M < 0)), .slice A7 (digs M.natAbs).length c7, .int .i64 E]) (by simp [results, Tryd.results83, go_sem, fr0, fr1, fr2]) rfl ?_
  
  refine ⟨A7, c7, rfl, ?_, ?_⟩
  · exact (fin3 L7.out Rr_7.out noint3 Gr).get (A := A7) (c := c7) (xs := digs M.natAbs) (by simp)
  · exact (fin3 L7.out Rr_7.out noint3 Gr).1

set_option maxHeartbeats 4000000 in
set_option maxRecDepth 100000 in
theorem cut_nla_f (A : Option Addr) (c : Nat) (q : Nat) (y P : Int) (p : Nat) (M E : Int) (w : World) (h : Dg w A c (digs q)) (hl : (digs q).length ≤ 30000) (hT : T32 w) (hP : (p : Int) = P) (p2 : 2 ≤ p) (p4 : p ≤ 400) (hb : p ≤ blen q) (y0 : -900000 ≤ y) (y1 : y ≤ 900000) (hM : nm (sg true (q / 2 ^ (blen q - p) + 1)) = M) (hE : nx (sg true (q / 2 ^ (blen q - p) + 1)) (y + (blen q - p : Nat)) = E) (hlow : decide (q % 2 ^ (blen q - p) ≠ 0) = true):
    Calls Tryd.prog 83 #[.agg #[.bool true, .slice A (digs q).length c, .int .i64 y], .bool false, .int .i64 P, .bool false] w fun e w' => Yr M E w e w' := by
  have q0 : q ≠ 0 := by rintro rfl; rw [blen_zero] at hb; omega
  have b1 : blen q ≤ 960000 := by have := bl_bd (m := (q : Int)) (k := 30000) (by rw [Int.natAbs_natCast]; exact hl); rwa [Int.natAbs_natCast] at this
  obtain ⟨z, hz⟩ : ∃ z : Int, (blen q : Int) = z := ⟨_, rfl⟩
  obtain ⟨d, hd⟩ : ∃ d : Nat, blen q - p = d := ⟨_, rfl⟩
  rw [hd] at hM hE hlow
  have hzd : z - P = (d : Int) := by omega
  have htl := tz_low (q := q) (d := d) q0
  rw [hlow] at htl
  obtain ⟨t, ht⟩ : ∃ t : Int, ((tz q : Nat) : Int) = t := ⟨_, rfl⟩
  have d1 : decide (t < z - P) = true := by rw [← htl, decide_eq_decide]; omega
  have HTZ := Lib.hid ht
  have z0 : 0 ≤ z := by omega
  have z1 : z ≤ 960000 := by omega
  have pp0 : 2 ≤ P := by omega
  have pp1 : P ≤ 400 := by omega
  have zp0 : 0 ≤ z - P := by omega
  have HZ := Lib.hid hz
  have HZD := Lib.hid hzd
  have LX := Lib.hid hl
  have Q0 := Lib.hid q0
  have hlk := digs_len_mono _ _ (Nat.div_le_self q (2 ^ d))
  have hdk : d ≤ 960000 := by omega
  have hlk1 := digs_add_len (q / 2 ^ d) 1
  have l1 : (digs 1).length = 1 := by rw [digs_one (by omega) (by omega)]; rfl
  have LK1 := Lib.hid (show (digs (q / 2 ^ d + 1)).length ≤ 30001 by omega)
  have LK := Lib.hid (show (digs (q / 2 ^ d)).length ≤ 30000 by omega)
  obtain ⟨k, hk⟩ : ∃ k, q / 2 ^ d = k := ⟨_, rfl⟩
  rw [hk] at hM hE LK LK1
  have HK := Lib.hid hk
  have HM := Lib.hid hM
  have HE := Lib.hid (show nx (sg true (k + 1)) (y + (z - P)) = E by rw [hzd]; exact hE)
  have SHR := Lib.hid (fun W (hW : Dg W A c (digs q)) => shr_i (i := z - P) hW (by omega) hzd (by omega))
  rw [hk] at SHR
  have HT := Lib.hid hT
  clear hT
  have L0 := Lib.hid ((live_start w).add h)
  clear h hl hP hb hz hd hzd q0 hM hE hlk hlk1 l1 hk b1 hlow htl ht
  go_enter Tryd.func83, Tryd.ntmps83
  go_wp2_with fail
  obtain ⟨v1, hW⟩ : ∃ W : World, W = ((w.alloc (.cells #[.bool true, .slice A (digs q).length c, .int .i64 y] 26)).alloc (.cells #[.bool false, .slice none 0 0, .int .i64 0] 26)) := ⟨_, rfl⟩
  rw [← hW]
  have hb : Below w.heap.size w v1 := by rw [hW]; exact (((Below.refl _ _).alloc (by simp <;> omega) _).alloc (by simp <;> omega) _)
  have L1 := Lib.hid (L0.out.step hb)
  have Rx_1 := Lib.hid (show v1.heap[w.heap.size]? = some (.cells #[.bool true, .slice A (digs q).length c, .int .i64 y] 26 (0, 0)) by rw [hW]; have := heap_alloc_new w (.cells #[.bool true, .slice A (digs q).length c, .int .i64 y] 26); rw [heap_alloc_old _ _ (by simp <;> omega)]; simpa using this)
  have Gx : w.heap.size ≤ w.heap.size := by have := L0.out.1.size; omega
  have Rr_1 := Lib.hid (show v1.heap[w.heap.size + 1]? = some (.cells #[.bool false, .slice none 0 0, .int .i64 0] 26 (0, 0)) by rw [hW]; have := heap_alloc_new (w.alloc (.cells #[.bool true, .slice A (digs q).length c, .int .i64 y] 26)) (.cells #[.bool false, .slice none 0 0, .int .i64 0] 26); simpa using this)
  have Gr : w.heap.size ≤ w.heap.size + 1 := by have := L0.out.1.size; omega
  have Nxr : w.heap.size < w.heap.size + 1 := by omega
  clear hW hb
  refine (bits_b (L1.out.get (A := A) (c := c) (xs := digs q) (by simp)) (Nat.le_trans LX.out (by omega)) HZ.out).mono ?_
  rintro e w2 ⟨rfl, rfl⟩
  have fx0 := row_c (i := 0) Rx_1.out rfl
  have zx0 := frozen_of_row _ _ 0 _ _ Rx_1.out
  have fx1 := row_c (i := 1) Rx_1.out rfl
  have zx1 := frozen_of_row _ _ 1 _ _ Rx_1.out
  have fx2 := row_c (i := 2) Rx_1.out rfl
  have zx2 := frozen_of_row _ _ 2 _ _ Rx_1.out
  have xx := heap_lt Rx_1.out
  go_wp2_with fail
  refine (SHR.out _ (L1.out.get (A := A) (c := c) (xs := digs q) (by simp))).mono ?_
  rintro e w3 ⟨A3, c3, rfl, hd, hb⟩
  have L3 := Lib.hid ((L1.out.step hb).add hd)
  clear fx0 zx0 fx1 zx1 fx2 zx2 xx
  have Rx_3 := Lib.hid (cells_of Rx_1.out hb)
  have Rr_3 := Lib.hid (cells_of Rr_1.out hb)
  clear hb hd
  have fx0 := row_c (i := 0) Rx_3.out rfl
  have zx0 := frozen_of_row _ _ 0 _ _ Rx_3.out
  have fx1 := row_c (i := 1) Rx_3.out rfl
  have zx1 := frozen_of_row _ _ 1 _ _ Rx_3.out
  have fx2 := row_c (i := 2) Rx_3.out rfl
  have zx2 := frozen_of_row _ _ 2 _ _ Rx_3.out
  have xx := heap_lt Rx_3.out
  go_wp2_with fail
  refine (zeros_i (L3.out.get (A := A) (c := c) (xs := digs q) (by simp)) (Nat.le_trans LX.out (by omega)) Q0.out (t32_live HT.out L3.out) HTZ.out).mono ?_
  rintro e w4 ⟨rfl, rfl⟩
  clear fx0 zx0 fx1 zx1 fx2 zx2 xx
  have fx0 := row_c (i := 0) Rx_3.out rfl
  have zx0 := frozen_of_row _ _ 0 _ _ Rx_3.out
  have fx1 := row_c (i := 1) Rx_3.out rfl
  have zx1 := frozen_of_row _ _ 1 _ _ Rx_3.out
  have fx2 := row_c (i := 2) Rx_3.out rfl
  have zx2 := frozen_of_row _ _ 2 _ _ Rx_3.out
  have xx := heap_lt Rx_3.out
  go_wp2_with fail
  obtain ⟨w5, hW⟩ : ∃ W : World, W = (w3.alloc (.cells #[.int .u32 1] 67)) := ⟨_, rfl⟩
  rw [← hW]
  have hb : Below w3.heap.size w3 w5 := by rw [hW]; exact ((Below.refl _ _).alloc (by simp <;> omega) _)
  have L5 := Lib.hid (L3.out.step hb)
  have Rx_5 := Lib.hid (cells_of Rx_3.out hb)
  have Rr_5 := Lib.hid (cells_of Rr_3.out hb)
  have Rone_5 := Lib.hid (show w5.heap[w3.heap.size]? = some (.cells #[.int .u32 1] 67 (0, 0)) by rw [hW]; have := heap_alloc_new w3 (.cells #[.int .u32 1] 67); simpa using this)
  have Gone : w.heap.size ≤ w3.heap.size := by have := L3.out.1.size; omega
  have Nxone : w.heap.size < w3.heap.size := by have := heap_lt Rx_3.out; omega
  have Nrone : w.heap.size + 1 < w3.heap.size := by have := heap_lt Rr_3.out; omega
  clear hW hb
  clear fx0 zx0 fx1 zx1 fx2 zx2 xx
  refine (nadd1 (L5.out.get (A := A3) (c := c3) (xs := digs k) (by simp)) (Nat.le_trans LK.out (by omega)) Rone_5.out).mono ?_
  rintro e w6 ⟨A6, c6, rfl, hd, hb⟩
  have L6 := Lib.hid ((L5.out.step hb).add hd)
  have Rx_6 := Lib.hid (cells_of Rx_5.out hb)
  have Rr_6 := Lib.hid (cells_of Rr_5.out hb)
  have Rone_6 := Lib.hid (cells_of Rone_5.out hb)
  clear hb hd
  have fx0 := row_c (i := 0) Rx_6.out rfl
  have zx0 := frozen_of_row _ _ 0 _ _ Rx_6.out
  have fx1 := row_c (i := 1) Rx_6.out rfl
  have zx1 := frozen_of_row _ _ 1 _ _ Rx_6.out
  have fx2 := row_c (i := 2) Rx_6.out rfl
  have zx2 := frozen_of_row _ _ 2 _ _ Rx_6.out
  have xx := heap_lt Rx_6.out
  clear fx0 zx0 fx1 zx1 fx2 zx2 xx
  have fx0 := row_c (i := 0) Rx_6.out rfl
  have zx0 := frozen_of_row _ _ 0 _ _ Rx_6.out
  have fx1 := row_c (i := 1) Rx_6.out rfl
  have zx1 := frozen_of_row _ _ 1 _ _ Rx_6.out
  have fx2 := row_c (i := 2) Rx_6.out rfl
  have zx2 := frozen_of_row _ _ 2 _ _ Rx_6.out
  have xx := heap_lt Rx_6.out
  go_wp2_with fail
  refine (odd_any A6 c6 true (k + 1) (y + (z - P)) M E _ (L6.out.get (A := A6) (c := c6) (xs := digs (k + 1)) (by simp)) (Nat.le_trans LK1.out (by omega)) (t32_live HT.out L6.out) ⟨by omega, by omega⟩ HM.out HE.out).mono ?_
  rintro e w7 ⟨A7, c7, rfl, hd, hb⟩
  have L7 := Lib.hid ((L6.out.step hb).add hd)
  clear fx0 zx0 fx1 zx1 fx2 zx2 xx
  have Rx_7 := Lib.hid (cells_of Rx_6.out hb)
  have Rr_7 := Lib.hid (cells_of Rr_6.out hb)
  have Rone_7 := Lib.hid (cells_of Rone_6.out hb)
  clear hb hd
  have fr0 := row_c (i := 0) Rr_7.out rfl
  have zr0 := frozen_of_row _ _ 0 _ _ Rr_7.out
  have fr1 := row_c (i := 1) Rr_7.out rfl
  have zr1 := frozen_of_row _ _ 1 _ _ Rr_7.out
  have fr2 := row_c (i := 2) Rr_7.out rfl
  have zr2 := frozen_of_row _ _ 2 _ _ Rr_7.out
  have xr := heap_lt Rr_7.out
  go_wp2
  refine bodyPost_ret (v := .agg #[.bool (decide (M < 0)), .slice A7 (digs M.natAbs).length c7, .int .i64 E]) (by simp [results, Tryd.results83, go_sem, fr0, fr1, fr2]) rfl ?_
  
  refine ⟨A7, c7, rfl, ?_, ?_⟩
  · exact (fin3 L7.out Rr_7.out noint3 Gr).get (A := A7) (c := c7) (xs := digs M.natAbs) (by simp)
  · exact (fin3 L7.out Rr_7.out noint3 Gr).1
end Go.Proofs.YtnfafgpnnpapdaaDoor
end

section
/-
  dyad.cut, whole.
-/
namespace Go.Proofs.YtnfafgpnnpapdaaDoor
open Go.RowKit
set_option linter.unusedSimpArgs false
set_option linter.unusedVariables false
set_option maxHeartbeats 4000000 in
set_option maxRecDepth 100000 in
theorem cut_nlf_t (A : Option Addr) (c : Nat) (q : Nat) (y P : Int) (p : Nat) (M E : Int) (w : World) (h : Dg w A c (digs q)) (hl : (digs q).length ≤ 30000) (hT : T32 w) (hP : (p : Int) = P) (p2 : 2 ≤ p) (p4 : p ≤ 400) (hb : p ≤ blen q) (y0 : -900000 ≤ y) (y1 : y ≤ 900000) (hM : nm (sg true (q / 2 ^ (blen q - p))) = M) (hE : nx (sg true (q / 2 ^ (blen q - p))) (y + (blen q - p : Nat)) = E) (hlow : decide (q % 2 ^ (blen q - p) ≠ 0) = true):
    Calls Tryd.prog 83 #[.agg #[.bool true, .slice A (digs q).length c, .int .i64 y], .bool false, .int .i64 P, .bool true] w fun e w' => Yr M E w e w' := by
  have q0 : q ≠ 0 := by rintro rfl; rw [blen_zero] at hb; omega
  have b1 : blen q ≤ 960000 := by have := bl_bd (m := (q : Int)) (k := 30000) (by rw [Int.natAbs_natCast]; exact hl); rwa [Int.natAbs_natCast] at this
  obtain ⟨z, hz⟩ : ∃ z : Int, (blen q : Int) = z := ⟨_, rfl⟩
  obtain ⟨d, hd⟩ : ∃ d : Nat, blen q - p = d := ⟨_, rfl⟩
  rw [hd] at hM hE hlow
  have hzd : z - P = (d : Int) := by omega
  have htl := tz_low (q := q) (d := d) q0
  rw [hlow] at htl
  obtain ⟨t, ht⟩ : ∃ t : Int, ((tz q : Nat) : Int) = t := ⟨_, rfl⟩
  have d1 : decide (t < z - P) = true := by rw [← htl, decide_eq_decide]; omega
  have HTZ := Lib.hid ht
  have z0 : 0 ≤ z := by omega
  have z1 : z ≤ 960000 := by omega
  have pp0 : 2 ≤ P := by omega
  have pp1 : P ≤ 400 := by omega
  have zp0 : 0 ≤ z - P := by omega
  have HZ := Lib.hid hz
  have HZD := Lib.hid hzd
  have LX := Lib.hid hl
  have Q0 := Lib.hid q0
  have hlk := digs_len_mono _ _ (Nat.div_le_self q (2 ^ d))
  have hdk : d ≤ 960000 := by omega
  have hlk1 := digs_add_len (q / 2 ^ d) 1
  have l1 : (digs 1).length = 1 := by rw [digs_one (by omega) (by omega)]; rfl
  have LK1 := Lib.hid (show (digs (q / 2 ^ d + 1)).length ≤ 30001 by omega)
  have LK := Lib.hid (show (digs (q / 2 ^ d)).length ≤ 30000 by omega)
  obtain ⟨k, hk⟩ : ∃ k, q / 2 ^ d = k := ⟨_, rfl⟩
  rw [hk] at hM hE LK LK1
  have HK := Lib.hid hk
  have HM := Lib.hid hM
  have HE := Lib.hid (show nx (sg true (k)) (y + (z - P)) = E by rw [hzd]; exact hE)
  have SHR := Lib.hid (fun W (hW : Dg W A c (digs q)) => shr_i (i := z - P) hW (by omega) hzd (by omega))
  rw [hk] at SHR
  have HT := Lib.hid hT
  clear hT
  have L0 := Lib.hid ((live_start w).add h)
  clear h hl hP hb hz hd hzd q0 hM hE hlk hlk1 l1 hk b1 hlow htl ht
  go_enter Tryd.func83, Tryd.ntmps83
  go_wp2_with fail
  obtain ⟨v1, hW⟩ : ∃ W : World, W = ((w.alloc (.cells #[.bool true, .slice A (digs q).length c, .int .i64 y] 26)).alloc (.cells #[.bool false, .slice none 0 0, .int .i64 0] 26)) := ⟨_, rfl⟩
  rw [← hW]
  have hb : Below w.heap.size w v1 := by rw [hW]; exact (((Below.refl _ _).alloc (by simp <;> omega) _).alloc (by simp <;> omega) _)
  have L1 := Lib.hid (L0.out.step hb)
  have Rx_1 := Lib.hid (show v1.heap[w.heap.size]? = some (.cells #[.bool true, .slice A (digs q).length c, .int .i64 y] 26 (0, 0)) by rw [hW]; have := heap_alloc_new w (.cells #[.bool true, .slice A (digs q).length c, .int .i64 y] 26); rw [heap_alloc_old _ _ (by simp <;> omega)]; simpa using this)
  have Gx : w.heap.size ≤ w.heap.size := by have := L0.out.1.size; omega
  have Rr_1 := Lib.hid (show v1.heap[w.heap.size + 1]? = some (.cells #[.bool false, .slice none 0 0, .int .i64 0] 26 (0, 0)) by rw [hW]; have := heap_alloc_new (w.alloc (.cells #[.bool true, .slice A (digs q).length c, .int .i64 y] 26)) (.cells #[.bool false, .slice none 0 0, .int .i64 0] 26); simpa using this)
  have Gr : w.heap.size ≤ w.heap.size + 1 := by have := L0.out.1.size; omega
  have Nxr : w.heap.size < w.heap.size + 1 := by omega
  clear hW hb
  refine (bits_b (L1.out.get (A := A) (c := c) (xs := digs q) (by simp)) (Nat.le_trans LX.out (by omega)) HZ.out).mono ?_
  rintro e w2 ⟨rfl, rfl⟩
  have fx0 := row_c (i := 0) Rx_1.out rfl
  have zx0 := frozen_of_row _ _ 0 _ _ Rx_1.out
  have fx1 := row_c (i := 1) Rx_1.out rfl
  have zx1 := frozen_of_row _ _ 1 _ _ Rx_1.out
  have fx2 := row_c (i := 2) Rx_1.out rfl
  have zx2 := frozen_of_row _ _ 2 _ _ Rx_1.out
  have xx := heap_lt Rx_1.out
  go_wp2_with fail
  refine (SHR.out _ (L1.out.get (A := A) (c := c) (xs := digs q) (by simp))).mono ?_
  rintro e w3 ⟨A3, c3, rfl, hd, hb⟩
  have L3 := Lib.hid ((L1.out.step hb).add hd)
  clear fx0 zx0 fx1 zx1 fx2 zx2 xx
  have Rx_3 := Lib.hid (cells_of Rx_1.out hb)
  have Rr_3 := Lib.hid (cells_of Rr_1.out hb)
  clear hb hd
  have fx0 := row_c (i := 0) Rx_3.out rfl
  have zx0 := frozen_of_row _ _ 0 _ _ Rx_3.out
  have fx1 := row_c (i := 1) Rx_3.out rfl
  have zx1 := frozen_of_row _ _ 1 _ _ Rx_3.out
  have fx2 := row_c (i := 2) Rx_3.out rfl
  have zx2 := frozen_of_row _ _ 2 _ _ Rx_3.out
  have xx := heap_lt Rx_3.out
  go_wp2_with fail
  refine (zeros_i (L3.out.get (A := A) (c := c) (xs := digs q) (by simp)) (Nat.le_trans LX.out (by omega)) Q0.out (t32_live HT.out L3.out) HTZ.out).mono ?_
  rintro e w4 ⟨rfl, rfl⟩
  clear fx0 zx0 fx1 zx1 fx2 zx2 xx
  have fx0 := row_c (i := 0) Rx_3.out rfl
  have zx0 := frozen_of_row _ _ 0 _ _ Rx_3.out
  have fx1 := row_c (i := 1) Rx_3.out rfl
  have zx1 := frozen_of_row _ _ 1 _ _ Rx_3.out
  have fx2 := row_c (i := 2) Rx_3.out rfl
  have zx2 := frozen_of_row _ _ 2 _ _ Rx_3.out
  have xx := heap_lt Rx_3.out
  clear fx0 zx0 fx1 zx1 fx2 zx2 xx
  have fx0 := row_c (i := 0) Rx_3.out rfl
  have zx0 := frozen_of_row _ _ 0 _ _ Rx_3.out
  have fx1 := row_c (i := 1) Rx_3.out rfl
  have zx1 := frozen_of_row _ _ 1 _ _ Rx_3.out
  have fx2 := row_c (i := 2) Rx_3.out rfl
  have zx2 := frozen_of_row _ _ 2 _ _ Rx_3.out
  have xx := heap_lt Rx_3.out
  go_wp2_with fail
  refine (odd_any A3 c3 true k (y + (z - P)) M E _ (L3.out.get (A := A3) (c := c3) (xs := digs k) (by simp)) (Nat.le_trans LK.out (by omega)) (t32_live HT.out L3.out) ⟨by omega, by omega⟩ HM.out HE.out).mono ?_
  rintro e w5 ⟨A5, c5, rfl, hd, hb⟩
  have L5 := Lib.hid ((L3.out.step hb).add hd)
  clear fx0 zx0 fx1 zx1 fx2 zx2 xx
  have Rx_5 := Lib.hid (cells_of Rx_3.out hb)
  have Rr_5 := Lib.hid (cells_of Rr_3.out hb)
  clear hb hd
  have fr0 := row_c (i := 0) Rr_5.out rfl
  have zr0 := frozen_of_row _ _ 0 _ _ Rr_5.out
  have fr1 := row_c (i := 1) Rr_5.out rfl
  have zr1 := frozen_of_row _ _ 1 _ _ Rr_5.out
  have fr2 := row_c (i := 2) Rr_5.out rfl
  have zr2 := frozen_of_row _ _ 2 _ _ Rr_5.out
  have xr := heap_lt Rr_5.out
  go_wp2
  refine bodyPost_ret (v := .agg #[.bool (decide (M < 0)), .slice A5 (digs M.natAbs).length c5, .int .i64 E]) (by simp [results, Tryd.results83, go_sem, fr0, fr1, fr2]) rfl ?_
  
  refine ⟨A5, c5, rfl, ?_, ?_⟩
  · exact (fin3 L5.out Rr_5.out noint3 Gr).get (A := A5) (c := c5) (xs := digs M.natAbs) (by simp)
  · exact (fin3 L5.out Rr_5.out noint3 Gr).1

set_option maxHeartbeats 4000000 in
set_option maxRecDepth 100000 in
theorem cut_nlf_f (A : Option Addr) (c : Nat) (q : Nat) (y P : Int) (p : Nat) (M E : Int) (w : World) (h : Dg w A c (digs q)) (hl : (digs q).length ≤ 30000) (hT : T32 w) (hP : (p : Int) = P) (p2 : 2 ≤ p) (p4 : p ≤ 400) (hb : p ≤ blen q) (y0 : -900000 ≤ y) (y1 : y ≤ 900000) (hM : nm (sg false (q / 2 ^ (blen q - p))) = M) (hE : nx (sg false (q / 2 ^ (blen q - p))) (y + (blen q - p : Nat)) = E) (hlow : decide (q % 2 ^ (blen q - p) ≠ 0) = true):
    Calls Tryd.prog 83 #[.agg #[.bool false, .slice A (digs q).length c, .int .i64 y], .bool false, .int .i64 P, .bool false] w fun e w' => Yr M E w e w' := by
  have q0 : q ≠ 0 := by rintro rfl; rw [blen_zero] at hb; omega
  have b1 : blen q ≤ 960000 := by have := bl_bd (m := (q : Int)) (k := 30000) (by rw [Int.natAbs_natCast]; exact hl); rwa [Int.natAbs_natCast] at this
  obtain ⟨z, hz⟩ : ∃ z : Int, (blen q : Int) = z := ⟨_, rfl⟩
  obtain ⟨d, hd⟩ : ∃ d : Nat, blen q - p = d := ⟨_, rfl⟩
  rw [hd] at hM hE hlow
  have hzd : z - P = (d : Int) := by omega
  have htl := tz_low (q := q) (d := d) q0
  rw [hlow] at htl
  obtain ⟨t, ht⟩ : ∃ t : Int, ((tz q : Nat) : Int) = t := ⟨_, rfl⟩
  have d1 : decide (t < z - P) = true := by rw [← htl, decide_eq_decide]; omega
  have HTZ := Lib.hid ht
  have z0 : 0 ≤ z := by omega
  have z1 : z ≤ 960000 := by omega
  have pp0 : 2 ≤ P := by omega
  have pp1 : P ≤ 400 := by omega
  have zp0 : 0 ≤ z - P := by omega
  have HZ := Lib.hid hz
  have HZD := Lib.hid hzd
  have LX := Lib.hid hl
  have Q0 := Lib.hid q0
  have hlk := digs_len_mono _ _ (Nat.div_le_self q (2 ^ d))
  have hdk : d ≤ 960000 := by omega
  have hlk1 := digs_add_len (q / 2 ^ d) 1
  have l1 : (digs 1).length = 1 := by rw [digs_one (by omega) (by omega)]; rfl
  have LK1 := Lib.hid (show (digs (q / 2 ^ d + 1)).length ≤ 30001 by omega)
  have LK := Lib.hid (show (digs (q / 2 ^ d)).length ≤ 30000 by omega)
  obtain ⟨k, hk⟩ : ∃ k, q / 2 ^ d = k := ⟨_, rfl⟩
  rw [hk] at hM hE LK LK1
  have HK := Lib.hid hk
  have HM := Lib.hid hM
  have HE := Lib.hid (show nx (sg false (k)) (y + (z - P)) = E by rw [hzd]; exact hE)
  have SHR := Lib.hid (fun W (hW : Dg W A c (digs q)) => shr_i (i := z - P) hW (by omega) hzd (by omega))
  rw [hk] at SHR
  have HT := Lib.hid hT
  clear hT
  have L0 := Lib.hid ((live_start w).add h)
  clear h hl hP hb hz hd hzd q0 hM hE hlk hlk1 l1 hk b1 hlow htl ht
  go_enter Tryd.func83, Tryd.ntmps83
  go_wp2_with fail
  obtain ⟨v1, hW⟩ : ∃ W : World, W = ((w.alloc (.cells #[.bool false, .slice A (digs q).length c, .int .i64 y] 26)).alloc (.cells #[.bool false, .slice none 0 0, .int .i64 0] 26)) := ⟨_, rfl⟩
  rw [← hW]
  have hb : Below w.heap.size w v1 := by rw [hW]; exact (((Below.refl _ _).alloc (by simp <;> omega) _).alloc (by simp <;> omega) _)
  have L1 := Lib.hid (L0.out.step hb)
  have Rx_1 := Lib.hid (show v1.heap[w.heap.size]? = some (.cells #[.bool false, .slice A (digs q).length c, .int .i64 y] 26 (0, 0)) by rw [hW]; have := heap_alloc_new w (.cells #[.bool false, .slice A (digs q).length c, .int .i64 y] 26); rw [heap_alloc_old _ _ (by simp <;> omega)]; simpa using this)
  have Gx : w.heap.size ≤ w.heap.size := by have := L0.out.1.size; omega
  have Rr_1 := Lib.hid (show v1.heap[w.heap.size + 1]? = some (.cells #[.bool false, .slice none 0 0, .int .i64 0] 26 (0, 0)) by rw [hW]; have := heap_alloc_new (w.alloc (.cells #[.bool false, .slice A (digs q).length c, .int .i64 y] 26)) (.cells #[.bool false, .slice none 0 0, .int .i64 0] 26); simpa using this)
  have Gr : w.heap.size ≤ w.heap.size + 1 := by have := L0.out.1.size; omega
  have Nxr : w.heap.size < w.heap.size + 1 := by omega
  clear hW hb
  refine (bits_b (L1.out.get (A := A) (c := c) (xs := digs q) (by simp)) (Nat.le_trans LX.out (by omega)) HZ.out).mono ?_
  rintro e w2 ⟨rfl, rfl⟩
  have fx0 := row_c (i := 0) Rx_1.out rfl
  have zx0 := frozen_of_row _ _ 0 _ _ Rx_1.out
  have fx1 := row_c (i := 1) Rx_1.out rfl
  have zx1 := frozen_of_row _ _ 1 _ _ Rx_1.out
  have fx2 := row_c (i := 2) Rx_1.out rfl
  have zx2 := frozen_of_row _ _ 2 _ _ Rx_1.out
  have xx := heap_lt Rx_1.out
  go_wp2_with fail
  refine (SHR.out _ (L1.out.get (A := A) (c := c) (xs := digs q) (by simp))).mono ?_
  rintro e w3 ⟨A3, c3, rfl, hd, hb⟩
  have L3 := Lib.hid ((L1.out.step hb).add hd)
  clear fx0 zx0 fx1 zx1 fx2 zx2 xx
  have Rx_3 := Lib.hid (cells_of Rx_1.out hb)
  have Rr_3 := Lib.hid (cells_of Rr_1.out hb)
  clear hb hd
  have fx0 := row_c (i := 0) Rx_3.out rfl
  have zx0 := frozen_of_row _ _ 0 _ _ Rx_3.out
  have fx1 := row_c (i := 1) Rx_3.out rfl
  have zx1 := frozen_of_row _ _ 1 _ _ Rx_3.out
  have fx2 := row_c (i := 2) Rx_3.out rfl
  have zx2 := frozen_of_row _ _ 2 _ _ Rx_3.out
  have xx := heap_lt Rx_3.out
  go_wp2_with fail
  refine (zeros_i (L3.out.get (A := A) (c := c) (xs := digs q) (by simp)) (Nat.le_trans LX.out (by omega)) Q0.out (t32_live HT.out L3.out) HTZ.out).mono ?_
  rintro e w4 ⟨rfl, rfl⟩
  clear fx0 zx0 fx1 zx1 fx2 zx2 xx
  have fx0 := row_c (i := 0) Rx_3.out rfl
  have zx0 := frozen_of_row _ _ 0 _ _ Rx_3.out
  have fx1 := row_c (i := 1) Rx_3.out rfl
  have zx1 := frozen_of_row _ _ 1 _ _ Rx_3.out
  have fx2 := row_c (i := 2) Rx_3.out rfl
  have zx2 := frozen_of_row _ _ 2 _ _ Rx_3.out
  have xx := heap_lt Rx_3.out
  clear fx0 zx0 fx1 zx1 fx2 zx2 xx
  have fx0 := row_c (i := 0) Rx_3.out rfl
  have zx0 := frozen_of_row _ _ 0 _ _ Rx_3.out
  have fx1 := row_c (i := 1) Rx_3.out rfl
  have zx1 := frozen_of_row _ _ 1 _ _ Rx_3.out
  have fx2 := row_c (i := 2) Rx_3.out rfl
  have zx2 := frozen_of_row _ _ 2 _ _ Rx_3.out
  have xx := heap_lt Rx_3.out
  go_wp2_with fail
  refine (odd_any A3 c3 false k (y + (z - P)) M E _ (L3.out.get (A := A3) (c := c3) (xs := digs k) (by simp)) (Nat.le_trans LK.out (by omega)) (t32_live HT.out L3.out) ⟨by omega, by omega⟩ HM.out HE.out).mono ?_
  rintro e w5 ⟨A5, c5, rfl, hd, hb⟩
  have L5 := Lib.hid ((L3.out.step hb).add hd)
  clear fx0 zx0 fx1 zx1 fx2 zx2 xx
  have Rx_5 := Lib.hid (cells_of Rx_3.out hb)
  have Rr_5 := Lib.hid (cells_of Rr_3.out hb)
  clear hb hd
  have fr0 := row_c (i := 0) Rr_5.out rfl
  have zr0 := frozen_of_row _ _ 0 _ _ Rr_5.out
  have fr1 := row_c (i := 1) Rr_5.out rfl
  have zr1 := frozen_of_row _ _ 1 _ _ Rr_5.out
  have fr2 := row_c (i := 2) Rr_5.out rfl
  have zr2 := frozen_of_row _ _ 2 _ _ Rr_5.out
  have xr := heap_lt Rr_5.out
  go_wp2
  refine bodyPost_ret (v := .agg #[.bool (decide (M < 0)), .slice A5 (digs M.natAbs).length c5, .int .i64 E]) (by simp [results, Tryd.results83, go_sem, fr0, fr1, fr2]) rfl ?_
  
  refine ⟨A5, c5, rfl, ?_, ?_⟩
  · exact (fin3 L5.out Rr_5.out noint3 Gr).get (A := A5) (c := c5) (xs := digs M.natAbs) (by simp)
  · exact (fin3 L5.out Rr_5.out noint3 Gr).1

set_option maxHeartbeats 4000000 in
set_option maxRecDepth 100000 in
theorem cut_mla_t (A : Option Addr) (c : Nat) (q : Nat) (y P : Int) (p : Nat) (M E : Int) (w : World) (h : Dg w A c (digs q)) (hl : (digs q).length ≤ 30000) (hT : T32 w) (hP : (p : Int) = P) (p2 : 2 ≤ p) (p4 : p ≤ 400) (hb : p ≤ blen q) (y0 : -900000 ≤ y) (y1 : y ≤ 900000) (hM : nm (sg false (q / 2 ^ (blen q - p) + 1)) = M) (hE : nx (sg false (q / 2 ^ (blen q - p) + 1)) (y + (blen q - p : Nat)) = E):
    Calls Tryd.prog 83 #[.agg #[.bool false, .slice A (digs q).length c, .int .i64 y], .bool true, .int .i64 P, .bool true] w fun e w' => Yr M E w e w' := by
  have q0 : q ≠ 0 := by rintro rfl; rw [blen_zero] at hb; omega
  have b1 : blen q ≤ 960000 := by have := bl_bd (m := (q : Int)) (k := 30000) (by rw [Int.natAbs_natCast]; exact hl); rwa [Int.natAbs_natCast] at this
  obtain ⟨z, hz⟩ : ∃ z : Int, (blen q : Int) = z := ⟨_, rfl⟩
  obtain ⟨d, hd⟩ : ∃ d : Nat, blen q - p = d := ⟨_, rfl⟩
  rw [hd] at hM hE
  have hzd : z - P = (d : Int) := by omega
  have z0 : 0 ≤ z := by omega
  have z1 : z ≤ 960000 := by omega
  have pp0 : 2 ≤ P := by omega
  have pp1 : P ≤ 400 := by omega
  have zp0 : 0 ≤ z - P := by omega
  have HZ := Lib.hid hz
  have HZD := Lib.hid hzd
  have LX := Lib.hid hl
  have Q0 := Lib.hid q0
  have hlk := digs_len_mono _ _ (Nat.div_le_self q (2 ^ d))
  have hdk : d ≤ 960000 := by omega
  have hlk1 := digs_add_len (q / 2 ^ d) 1
  have l1 : (digs 1).length = 1 := by rw [digs_one (by omega) (by omega)]; rfl
  have LK1 := Lib.hid (show (digs (q / 2 ^ d + 1)).length ≤ 30001 by omega)
  have LK := Lib.hid (show (digs (q / 2 ^ d)).length ≤ 30000 by omega)
  obtain ⟨k, hk⟩ : ∃ k, q / 2 ^ d = k := ⟨_, rfl⟩
  rw [hk] at hM hE LK LK1
  have HK := Lib.hid hk
  have HM := Lib.hid hM
  have HE := Lib.hid (show nx (sg false (k + 1)) (y + (z - P)) = E by rw [hzd]; exact hE)
  have SHR := Lib.hid (fun W (hW : Dg W A c (digs q)) => shr_i (i := z - P) hW (by omega) hzd (by omega))
  rw [hk] at SHR
  have HT := Lib.hid hT
  clear hT
  have L0 := Lib.hid ((live_start w).add h)
  clear h hl hP hb hz hd hzd q0 hM hE hlk hlk1 l1 hk b1
  go_enter Tryd.func83, Tryd.ntmps83
  go_wp2_with fail
  obtain ⟨v1, hW⟩ : ∃ W : World, W = ((w.alloc (.cells #[.bool false, .slice A (digs q).length c, .int .i64 y] 26)).alloc (.cells #[.bool false, .slice none 0 0, .int .i64 0] 26)) := ⟨_, rfl⟩
  rw [← hW]
  have hb : Below w.heap.size w v1 := by rw [hW]; exact (((Below.refl _ _).alloc (by simp <;> omega) _).alloc (by simp <;> omega) _)
  have L1 := Lib.hid (L0.out.step hb)
  have Rx_1 := Lib.hid (show v1.heap[w.heap.size]? = some (.cells #[.bool false, .slice A (digs q).length c, .int .i64 y] 26 (0, 0)) by rw [hW]; have := heap_alloc_new w (.cells #[.bool false, .slice A (digs q).length c, .int .i64 y] 26); rw [heap_alloc_old _ _ (by simp <;> omega)]; simpa using this)
  have Gx : w.heap.size ≤ w.heap.size := by have := L0.out.1.size; omega
  have Rr_1 := Lib.hid (show v1.heap[w.heap.size + 1]? = some (.cells #[.bool false, .slice none 0 0, .int .i64 0] 26 (0, 0)) by rw [hW]; have := heap_alloc_new (w.alloc (.cells #[.bool false, .slice A (digs q).length c, .int .i64 y] 26)) (.cells #[.bool false, .slice none 0 0, .int .i64 0] 26); simpa using this)
  have Gr : w.heap.size ≤ w.heap.size + 1 := by have := L0.out.1.size; omega
  have Nxr : w.heap.size < w.heap.size + 1 := by omega
  clear hW hb
  refine (bits_b (L1.out.get (A := A) (c := c) (xs := digs q) (by simp)) (Nat.le_trans LX.out (by omega)) HZ.out).mono ?_
  rintro e w2 ⟨rfl, rfl⟩
  have fx0 := row_c (i := 0) Rx_1.out rfl
  have zx0 := frozen_of_row _ _ 0 _ _ Rx_1.out
  have fx1 := row_c (i := 1) Rx_1.out rfl
  have zx1 := frozen_of_row _ _ 1 _ _ Rx_1.out
  have fx2 := row_c (i := 2) Rx_1.out rfl
  have zx2 := frozen_of_row _ _ 2 _ _ Rx_1.out
  have xx := heap_lt Rx_1.out
  go_wp2_with fail
  refine (SHR.out _ (L1.out.get (A := A) (c := c) (xs := digs q) (by simp))).mono ?_
  rintro e w3 ⟨A3, c3, rfl, hd, hb⟩
  have L3 := Lib.hid ((L1.out.step hb).add hd)
  clear fx0 zx0 fx1 zx1 fx2 zx2 xx
  have Rx_3 := Lib.hid (cells_of Rx_1.out hb)
  have Rr_3 := Lib.hid (cells_of Rr_1.out hb)
  clear hb hd
  have fx0 := row_c (i := 0) Rx_3.out rfl
  have zx0 := frozen_of_row _ _ 0 _ _ Rx_3.out
  have fx1 := row_c (i := 1) Rx_3.out rfl
  have zx1 := frozen_of_row _ _ 1 _ _ Rx_3.out
  have fx2 := row_c (i := 2) Rx_3.out rfl
  have zx2 := frozen_of_row _ _ 2 _ _ Rx_3.out
  have xx := heap_lt Rx_3.out
  go_wp2_with fail
  obtain ⟨w4, hW⟩ : ∃ W : World, W = (w3.alloc (.cells #[.int .u32 1] 67)) := ⟨_, rfl⟩
  rw [← hW]
  have hb : Below w3.heap.size w3 w4 := by rw [hW]; exact ((Below.refl _ _).alloc (by simp <;> omega) _)
  have L4 := Lib.hid (L3.out.step hb)
  have Rx_4 := Lib.hid (cells_of Rx_3.out hb)
  have Rr_4 := Lib.hid (cells_of Rr_3.out hb)
  have Rone_4 := Lib.hid (show w4.heap[w3.heap.size]? = some (.cells #[.int .u32 1] 67 (0, 0)) by rw [hW]; have := heap_alloc_new w3 (.cells #[.int .u32 1] 67); simpa using this)
  have Gone : w.heap.size ≤ w3.heap.size := by have := L3.out.1.size; omega
  have Nxone : w.heap.size < w3.heap.size := by have := heap_lt Rx_3.out; omega
  have Nrone : w.heap.size + 1 < w3.heap.size := by have := heap_lt Rr_3.out; omega
  clear hW hb
  clear fx0 zx0 fx1 zx1 fx2 zx2 xx
  refine (nadd1 (L4.out.get (A := A3) (c := c3) (xs := digs k) (by simp)) (Nat.le_trans LK.out (by omega)) Rone_4.out).mono ?_
  rintro e w5 ⟨A5, c5, rfl, hd, hb⟩
  have L5 := Lib.hid ((L4.out.step hb).add hd)
  have Rx_5 := Lib.hid (cells_of Rx_4.out hb)
  have Rr_5 := Lib.hid (cells_of Rr_4.out hb)
  have Rone_5 := Lib.hid (cells_of Rone_4.out hb)
  clear hb hd
  have fx0 := row_c (i := 0) Rx_5.out rfl
  have zx0 := frozen_of_row _ _ 0 _ _ Rx_5.out
  have fx1 := row_c (i := 1) Rx_5.out rfl
  have zx1 := frozen_of_row _ _ 1 _ _ Rx_5.out
  have fx2 := row_c (i := 2) Rx_5.out rfl
  have zx2 := frozen_of_row _ _ 2 _ _ Rx_5.out
  have xx := heap_lt Rx_5.out
  clear fx0 zx0 fx1 zx1 fx2 zx2 xx
  have fx0 := row_c (i := 0) Rx_5.out rfl
  have zx0 := frozen_of_row _ _ 0 _ _ Rx_5.out
  have fx1 := row_c (i := 1) Rx_5.out rfl
  have zx1 := frozen_of_row _ _ 1 _ _ Rx_5.out
  have fx2 := row_c (i := 2) Rx_5.out rfl
  have zx2 := frozen_of_row _ _ 2 _ _ Rx_5.out
  have xx := heap_lt Rx_5.out
  go_wp2_with fail
  refine (odd_any A5 c5 false (k + 1) (y + (z - P)) M E _ (L5.out.get (A := A5) (c := c5) (xs := digs (k + 1)) (by simp)) (Nat.le_trans LK1.out (by omega)) (t32_live HT.out L5.out) ⟨by omega, by omega⟩ HM.out HE.out).mono ?_
  rintro e w6 ⟨A6, c6, rfl, hd, hb⟩
  have L6 := Lib.hid ((L5.out.step hb).add hd)
  clear fx0 zx0 fx1 zx1 fx2 zx2 xx
  have Rx_6 := Lib.hid (cells_of Rx_5.out hb)
  have Rr_6 := Lib.hid (cells_of Rr_5.out hb)
  have Rone_6 := Lib.hid (cells_of Rone_5.out hb)
  clear hb hd
  have fr0 := row_c (i := 0) Rr_6.out rfl
  have zr0 := frozen_of_row _ _ 0 _ _ Rr_6.out
  have fr1 := row_c (i := 1) Rr_6.out rfl
  have zr1 := frozen_of_row _ _ 1 _ _ Rr_6.out
  have fr2 := row_c (i := 2) Rr_6.out rfl
  have zr2 := frozen_of_row _ _ 2 _ _ Rr_6.out
  have xr := heap_lt Rr_6.out
  go_wp2
  refine bodyPost_ret (v := .agg #[.bool (decide (M < 0)), .slice A6 (digs M.natAbs).length c6, .int .i64 E]) (by simp [results, Tryd.results83, go_sem, fr0, fr1, fr2]) rfl ?_
  
  refine ⟨A6, c6, rfl, ?_, ?_⟩
  · exact (fin3 L6.out Rr_6.out noint3 Gr).get (A := A6) (c := c6) (xs := digs M.natAbs) (by simp)
  · exact (fin3 L6.out Rr_6.out noint3 Gr).1

set_option maxHeartbeats 4000000 in
set_option maxRecDepth 100000 in
theorem cut_mla_f (A : Option Addr) (c : Nat) (q : Nat) (y P : Int) (p : Nat) (M E : Int) (w : World) (h : Dg w A c (digs q)) (hl : (digs q).length ≤ 30000) (hT : T32 w) (hP : (p : Int) = P) (p2 : 2 ≤ p) (p4 : p ≤ 400) (hb : p ≤ blen q) (y0 : -900000 ≤ y) (y1 : y ≤ 900000) (hM : nm (sg true (q / 2 ^ (blen q - p) + 1)) = M) (hE : nx (sg true (q / 2 ^ (blen q - p) + 1)) (y + (blen q - p : Nat)) = E):
    Calls Tryd.prog 83 #[.agg #[.bool true, .slice A (digs q).length c, .int .i64 y], .bool true, .int .i64 P, .bool false] w fun e w' => Yr M E w e w' := by
  have q0 : q ≠ 0 := by rintro rfl; rw [blen_zero] at hb; omega
  have b1 : blen q ≤ 960000 := by have := bl_bd (m := (q : Int)) (k := 30000) (by rw [Int.natAbs_natCast]; exact hl); rwa [Int.natAbs_natCast] at this
  obtain ⟨z, hz⟩ : ∃ z : Int, (blen q : Int) = z := ⟨_, rfl⟩
  obtain ⟨d, hd⟩ : ∃ d : Nat, blen q - p = d := ⟨_, rfl⟩
  rw [hd] at hM hE
  have hzd : z - P = (d : Int) := by omega
  have z0 : 0 ≤ z := by omega
  have z1 : z ≤ 960000 := by omega
  have pp0 : 2 ≤ P := by omega
  have pp1 : P ≤ 400 := by omega
  have zp0 : 0 ≤ z - P := by omega
  have HZ := Lib.hid hz
  have HZD := Lib.hid hzd
  have LX := Lib.hid hl
  have Q0 := Lib.hid q0
  have hlk := digs_len_mono _ _ (Nat.div_le_self q (2 ^ d))
  have hdk : d ≤ 960000 := by omega
  have hlk1 := digs_add_len (q / 2 ^ d) 1
  have l1 : (digs 1).length = 1 := by rw [digs_one (by omega) (by omega)]; rfl
  have LK1 := Lib.hid (show (digs (q / 2 ^ d + 1)).length ≤ 30001 by omega)
  have LK := Lib.hid (show (digs (q / 2 ^ d)).length ≤ 30000 by omega)
  obtain ⟨k, hk⟩ : ∃ k, q / 2 ^ d = k := ⟨_, rfl⟩
  rw [hk] at hM hE LK LK1
  have HK := Lib.hid hk
  have HM := Lib.hid hM
  have HE := Lib.hid (show nx (sg true (k + 1)) (y + (z - P)) = E by rw [hzd]; exact hE)
  have SHR := Lib.hid (fun W (hW : Dg W A c (digs q)) => shr_i (i := z - P) hW (by omega) hzd (by omega))
  rw [hk] at SHR
  have HT := Lib.hid hT
  clear hT
  have L0 := Lib.hid ((live_start w).add h)
  clear h hl hP hb hz hd hzd q0 hM hE hlk hlk1 l1 hk b1
  go_enter Tryd.func83, Tryd.ntmps83
  go_wp2_with fail
  obtain ⟨v1, hW⟩ : ∃ W : World, W = ((w.alloc (.cells #[.bool true, .slice A (digs q).length c, .int .i64 y] 26)).alloc (.cells #[.bool false, .slice none 0 0, .int .i64 0] 26)) := ⟨_, rfl⟩
  rw [← hW]
  have hb : Below w.heap.size w v1 := by rw [hW]; exact (((Below.refl _ _).alloc (by simp <;> omega) _).alloc (by simp <;> omega) _)
  have L1 := Lib.hid (L0.out.step hb)
  have Rx_1 := Lib.hid (show v1.heap[w.heap.size]? = some (.cells #[.bool true, .slice A (digs q).length c, .int .i64 y] 26 (0, 0)) by rw [hW]; have := heap_alloc_new w (.cells #[.bool true, .slice A (digs q).length c, .int .i64 y] 26); rw [heap_alloc_old _ _ (by simp <;> omega)]; simpa using this)
  have Gx : w.heap.size ≤ w.heap.size := by have := L0.out.1.size; omega
  have Rr_1 := Lib.hid (show v1.heap[w.heap.size + 1]? = some (.cells #[.bool false, .slice none 0 0, .int .i64 0] 26 (0, 0)) by rw [hW]; have := heap_alloc_new (w.alloc (.cells #[.bool true, .slice A (digs q).length c, .int .i64 y] 26)) (.cells #[.bool false, .slice none 0 0, .int .i64 0] 26); simpa using this)
  have Gr : w.heap.size ≤ w.heap.size + 1 := by have := L0.out.1.size; omega
  have Nxr : w.heap.size < w.heap.size + 1 := by omega
  clear hW hb
  refine (bits_b (L1.out.get (A := A) (c := c) (xs := digs q) (by simp)) (Nat.le_trans LX.out (by omega)) HZ.out).mono ?_
  rintro e w2 ⟨rfl, rfl⟩
  have fx0 := row_c (i := 0) Rx_1.out rfl
  have zx0 := frozen_of_row _ _ 0 _ _ Rx_1.out
  have fx1 := row_c (i := 1) Rx_1.out rfl
  have zx1 := frozen_of_row _ _ 1 _ _ Rx_1.out
  have fx2 := row_c (i := 2) Rx_1.out rfl
  have zx2 := frozen_of_row _ _ 2 _ _ Rx_1.out
  have xx := heap_lt Rx_1.out
  go_wp2_with fail
  refine (SHR.out _ (L1.out.get (A := A) (c := c) (xs := digs q) (by simp))).mono ?_
  rintro e w3 ⟨A3, c3, rfl, hd, hb⟩
  have L3 := Lib.hid ((L1.out.step hb).add hd)
  clear fx0 zx0 fx1 zx1 fx2 zx2 xx
  have Rx_3 := Lib.hid (cells_of Rx_1.out hb)
  have Rr_3 := Lib.hid (cells_of Rr_1.out hb)
  clear hb hd
  have fx0 := row_c (i := 0) Rx_3.out rfl
  have zx0 := frozen_of_row _ _ 0 _ _ Rx_3.out
  have fx1 := row_c (i := 1) Rx_3.out rfl
  have zx1 := frozen_of_row _ _ 1 _ _ Rx_3.out
  have fx2 := row_c (i := 2) Rx_3.out rfl
  have zx2 := frozen_of_row _ _ 2 _ _ Rx_3.out
  have xx := heap_lt Rx_3.out
  go_wp2_with fail
  obtain ⟨w4, hW⟩ : ∃ W : World, W = (w3.alloc (.cells #[.int .u32 1] 67)) := ⟨_, rfl⟩
  rw [← hW]
  have hb : Below w3.heap.size w3 w4 := by rw [hW]; exact ((Below.refl _ _).alloc (by simp <;> omega) _)
  have L4 := Lib.hid (L3.out.step hb)
  have Rx_4 := Lib.hid (cells_of Rx_3.out hb)
  have Rr_4 := Lib.hid (cells_of Rr_3.out hb)
  have Rone_4 := Lib.hid (show w4.heap[w3.heap.size]? = some (.cells #[.int .u32 1] 67 (0, 0)) by rw [hW]; have := heap_alloc_new w3 (.cells #[.int .u32 1] 67); simpa using this)
  have Gone : w.heap.size ≤ w3.heap.size := by have := L3.out.1.size; omega
  have Nxone : w.heap.size < w3.heap.size := by have := heap_lt Rx_3.out; omega
  have Nrone : w.heap.size + 1 < w3.heap.size := by have := heap_lt Rr_3.out; omega
  clear hW hb
  clear fx0 zx0 fx1 zx1 fx2 zx2 xx
  refine (nadd1 (L4.out.get (A := A3) (c := c3) (xs := digs k) (by simp)) (Nat.le_trans LK.out (by omega)) Rone_4.out).mono ?_
  rintro e w5 ⟨A5, c5, rfl, hd, hb⟩
  have L5 := Lib.hid ((L4.out.step hb).add hd)
  have Rx_5 := Lib.hid (cells_of Rx_4.out hb)
  have Rr_5 := Lib.hid (cells_of Rr_4.out hb)
  have Rone_5 := Lib.hid (cells_of Rone_4.out hb)
  clear hb hd
  have fx0 := row_c (i := 0) Rx_5.out rfl
  have zx0 := frozen_of_row _ _ 0 _ _ Rx_5.out
  have fx1 := row_c (i := 1) Rx_5.out rfl
  have zx1 := frozen_of_row _ _ 1 _ _ Rx_5.out
  have fx2 := row_c (i := 2) Rx_5.out rfl
  have zx2 := frozen_of_row _ _ 2 _ _ Rx_5.out
  have xx := heap_lt Rx_5.out
  clear fx0 zx0 fx1 zx1 fx2 zx2 xx
  have fx0 := row_c (i := 0) Rx_5.out rfl
  have zx0 := frozen_of_row _ _ 0 _ _ Rx_5.out
  have fx1 := row_c (i := 1) Rx_5.out rfl
  have zx1 := frozen_of_row _ _ 1 _ _ Rx_5.out
  have fx2 := row_c (i := 2) Rx_5.out rfl
  have zx2 := frozen_of_row _ _ 2 _ _ Rx_5.out
  have xx := heap_lt Rx_5.out
  go_wp2_with fail
  refine (odd_any A5 c5 true (k + 1) (y + (z - P)) M E _ (L5.out.get (A := A5) (c := c5) (xs := digs (k + 1)) (by simp)) (Nat.le_trans LK1.out (by omega)) (t32_live HT.out L5.out) ⟨by omega, by omega⟩ HM.out HE.out).mono ?_
  rintro e w6 ⟨A6, c6, rfl, hd, hb⟩
  have L6 := Lib.hid ((L5.out.step hb).add hd)
  clear fx0 zx0 fx1 zx1 fx2 zx2 xx
  have Rx_6 := Lib.hid (cells_of Rx_5.out hb)
  have Rr_6 := Lib.hid (cells_of Rr_5.out hb)
  have Rone_6 := Lib.hid (cells_of Rone_5.out hb)
  clear hb hd
  have fr0 := row_c (i := 0) Rr_6.out rfl
  have zr0 := frozen_of_row _ _ 0 _ _ Rr_6.out
  have fr1 := row_c (i := 1) Rr_6.out rfl
  have zr1 := frozen_of_row _ _ 1 _ _ Rr_6.out
  have fr2 := row_c (i := 2) Rr_6.out rfl
  have zr2 := frozen_of_row _ _ 2 _ _ Rr_6.out
  have xr := heap_lt Rr_6.out
  go_wp2
  refine bodyPost_ret (v := .agg #[.bool (decide (M < 0)), .slice A6 (digs M.natAbs).length c6, .int .i64 E]) (by simp [results, Tryd.results83, go_sem, fr0, fr1, fr2]) rfl ?_
  
  refine ⟨A6, c6, rfl, ?_, ?_⟩
  · exact (fin3 L6.out Rr_6.out noint3 Gr).get (A := A6) (c := c6) (xs := digs M.natAbs) (by simp)
  · exact (fin3 L6.out Rr_6.out noint3 Gr).1

set_option maxHeartbeats 4000000 in
set_option maxRecDepth 100000 in
theorem cut_mlf_t (A : Option Addr) (c : Nat) (q : Nat) (y P : Int) (p : Nat) (M E : Int) (w : World) (h : Dg w A c (digs q)) (hl : (digs q).length ≤ 30000) (hT : T32 w) (hP : (p : Int) = P) (p2 : 2 ≤ p) (p4 : p ≤ 400) (hb : p ≤ blen q) (y0 : -900000 ≤ y) (y1 : y ≤ 900000) (hM : nm (sg true (q / 2 ^ (blen q - p))) = M) (hE : nx (sg true (q / 2 ^ (blen q - p))) (y + (blen q - p : Nat)) = E):
    Calls Tryd.prog 83 #[.agg #[.bool true, .slice A (digs q).length c, .int .i64 y], .bool true, .int .i64 P, .bool true] w fun e w' => Yr M E w e w' := by
  have q0 : q ≠ 0 := by rintro rfl; rw [blen_zero] at hb; omega
  have b1 : blen q ≤ 960000 := by have := bl_bd (m := (q : Int)) (k := 30000) (by rw [Int.natAbs_natCast]; exact hl); rwa [Int.natAbs_natCast] at this
  obtain ⟨z, hz⟩ : ∃ z : Int, (blen q : Int) = z := ⟨_, rfl⟩
  obtain ⟨d, hd⟩ : ∃ d : Nat, blen q - p = d := ⟨_, rfl⟩
  rw [hd] at hM hE
  have hzd : z - P = (d : Int) := by omega
  have z0 : 0 ≤ z := by omega
  have z1 : z ≤ 960000 := by omega
  have pp0 : 2 ≤ P := by omega
  have pp1 : P ≤ 400 := by omega
  have zp0 : 0 ≤ z - P := by omega
  have HZ := Lib.hid hz
  have HZD := Lib.hid hzd
  have LX := Lib.hid hl
  have Q0 := Lib.hid q0
  have hlk := digs_len_mono _ _ (Nat.div_le_self q (2 ^ d))
  have hdk : d ≤ 960000 := by omega
  have hlk1 := digs_add_len (q / 2 ^ d) 1
  have l1 : (digs 1).length = 1 := by rw [digs_one (by omega) (by omega)]; rfl
  have LK1 := Lib.hid (show (digs (q / 2 ^ d + 1)).length ≤ 30001 by omega)
  have LK := Lib.hid (show (digs (q / 2 ^ d)).length ≤ 30000 by omega)
  obtain ⟨k, hk⟩ : ∃ k, q / 2 ^ d = k := ⟨_, rfl⟩
  rw [hk] at hM hE LK LK1
  have HK := Lib.hid hk
  have HM := Lib.hid hM
  have HE := Lib.hid (show nx (sg true (k)) (y + (z - P)) = E by rw [hzd]; exact hE)
  have SHR := Lib.hid (fun W (hW : Dg W A c (digs q)) => shr_i (i := z - P) hW (by omega) hzd (by omega))
  rw [hk] at SHR
  have HT := Lib.hid hT
  clear hT
  have L0 := Lib.hid ((live_start w).add h)
  clear h hl hP hb hz hd hzd q0 hM hE hlk hlk1 l1 hk b1
  go_enter Tryd.func83, Tryd.ntmps83
  go_wp2_with fail
  obtain ⟨v1, hW⟩ : ∃ W : World, W = ((w.alloc (.cells #[.bool true, .slice A (digs q).length c, .int .i64 y] 26)).alloc (.cells #[.bool false, .slice none 0 0, .int .i64 0] 26)) := ⟨_, rfl⟩
  rw [← hW]
  have hb : Below w.heap.size w v1 := by rw [hW]; exact (((Below.refl _ _).alloc (by simp <;> omega) _).alloc (by simp <;> omega) _)
  have L1 := Lib.hid (L0.out.step hb)
  have Rx_1 := Lib.hid (show v1.heap[w.heap.size]? = some (.cells #[.bool true, .slice A (digs q).length c, .int .i64 y] 26 (0, 0)) by rw [hW]; have := heap_alloc_new w (.cells #[.bool true, .slice A (digs q).length c, .int .i64 y] 26); rw [heap_alloc_old _ _ (by simp <;> omega)]; simpa using this)
  have Gx : w.heap.size ≤ w.heap.size := by have := L0.out.1.size; omega
  have Rr_1 := Lib.hid (show v1.heap[w.heap.size + 1]? = some (.cells #[.bool false, .slice none 0 0, .int .i64 0] 26 (0, 0)) by rw [hW]; have := heap_alloc_new (w.alloc (.cells #[.bool true, .slice A (digs q).length c, .int .i64 y] 26)) (.cells #[.bool false, .slice none 0 0, .int .i64 0] 26); simpa using this)
  have Gr : w.heap.size ≤ w.heap.size + 1 := by have := L0.out.1.size; omega
  have Nxr : w.heap.size < w.heap.size + 1 := by omega
  clear hW hb
  refine (bits_b (L1.out.get (A := A) (c := c) (xs := digs q) (by simp)) (Nat.le_trans LX.out (by omega)) HZ.out).mono ?_
  rintro e w2 ⟨rfl, rfl⟩
  have fx0 := row_c (i := 0) Rx_1.out rfl
  have zx0 := frozen_of_row _ _ 0 _ _ Rx_1.out
  have fx1 := row_c (i := 1) Rx_1.out rfl
  have zx1 := frozen_of_row _ _ 1 _ _ Rx_1.out
  have fx2 := row_c (i := 2) Rx_1.out rfl
  have zx2 := frozen_of_row _ _ 2 _ _ Rx_1.out
  have xx := heap_lt Rx_1.out
  go_wp2_with fail
  refine (SHR.out _ (L1.out.get (A := A) (c := c) (xs := digs q) (by simp))).mono ?_
  rintro e w3 ⟨A3, c3, rfl, hd, hb⟩
  have L3 := Lib.hid ((L1.out.step hb).add hd)
  clear fx0 zx0 fx1 zx1 fx2 zx2 xx
  have Rx_3 := Lib.hid (cells_of Rx_1.out hb)
  have Rr_3 := Lib.hid (cells_of Rr_1.out hb)
  clear hb hd
  have fx0 := row_c (i := 0) Rx_3.out rfl
  have zx0 := frozen_of_row _ _ 0 _ _ Rx_3.out
  have fx1 := row_c (i := 1) Rx_3.out rfl
  have zx1 := frozen_of_row _ _ 1 _ _ Rx_3.out
  have fx2 := row_c (i := 2) Rx_3.out rfl
  have zx2 := frozen_of_row _ _ 2 _ _ Rx_3.out
  have xx := heap_lt Rx_3.out
  clear fx0 zx0 fx1 zx1 fx2 zx2 xx
  have fx0 := row_c (i := 0) Rx_3.out rfl
  have zx0 := frozen_of_row _ _ 0 _ _ Rx_3.out
  have fx1 := row_c (i := 1) Rx_3.out rfl
  have zx1 := frozen_of_row _ _ 1 _ _ Rx_3.out
  have fx2 := row_c (i := 2) Rx_3.out rfl
  have zx2 := frozen_of_row _ _ 2 _ _ Rx_3.out
  have xx := heap_lt Rx_3.out
  go_wp2_with fail
  refine (odd_any A3 c3 true k (y + (z - P)) M E _ (L3.out.get (A := A3) (c := c3) (xs := digs k) (by simp)) (Nat.le_trans LK.out (by omega)) (t32_live HT.out L3.out) ⟨by omega, by omega⟩ HM.out HE.out).mono ?_
  rintro e w4 ⟨A4, c4, rfl, hd, hb⟩
  have L4 := Lib.hid ((L3.out.step hb).add hd)
  clear fx0 zx0 fx1 zx1 fx2 zx2 xx
  have Rx_4 := Lib.hid (cells_of Rx_3.out hb)
  have Rr_4 := Lib.hid (cells_of Rr_3.out hb)
  clear hb hd
  have fr0 := row_c (i := 0) Rr_4.out rfl
  have zr0 := frozen_of_row _ _ 0 _ _ Rr_4.out
  have fr1 := row_c (i := 1) Rr_4.out rfl
  have zr1 := frozen_of_row _ _ 1 _ _ Rr_4.out
  have fr2 := row_c (i := 2) Rr_4.out rfl
  have zr2 := frozen_of_row _ _ 2 _ _ Rr_4.out
  have xr := heap_lt Rr_4.out
  go_wp2
  refine bodyPost_ret (v := .agg #[.bool (decide (M < 0)), .slice A4 (digs M.natAbs).length c4, .int .i64 E]) (by simp [results, Tryd.results83, go_sem, fr0, fr1, fr2]) rfl ?_
  
  refine ⟨A4, c4, rfl, ?_, ?_⟩
  · exact (fin3 L4.out Rr_4.out noint3 Gr).get (A := A4) (c := c4) (xs := digs M.natAbs) (by simp)
  · exact (fin3 L4.out Rr_4.out noint3 Gr).1

set_option maxHeartbeats 4000000 in
set_option maxRecDepth 100000 in
theorem cut_mlf_f (A : Option Addr) (c : Nat) (q : Nat) (y P : Int) (p : Nat) (M E : Int) (w : World) (h : Dg w A c (digs q)) (hl : (digs q).length ≤ 30000) (hT : T32 w) (hP : (p : Int) = P) (p2 : 2 ≤ p) (p4 : p ≤ 400) (hb : p ≤ blen q) (y0 : -900000 ≤ y) (y1 : y ≤ 900000) (hM : nm (sg false (q / 2 ^ (blen q - p))) = M) (hE : nx (sg false (q / 2 ^ (blen q - p))) (y + (blen q - p : Nat)) = E):
    Calls Tryd.prog 83 #[.agg #[.bool false, .slice A (digs q).length c, .int .i64 y], .bool true, .int .i64 P, .bool false] w fun e w' => Yr M E w e w' := by
  have q0 : q ≠ 0 := by rintro rfl; rw [blen_zero] at hb; omega
  have b1 : blen q ≤ 960000 := by have := bl_bd (m := (q : Int)) (k := 30000) (by rw [Int.natAbs_natCast]; exact hl); rwa [Int.natAbs_natCast] at this
  obtain ⟨z, hz⟩ : ∃ z : Int, (blen q : Int) = z := ⟨_, rfl⟩
  obtain ⟨d, hd⟩ : ∃ d : Nat, blen q - p = d := ⟨_, rfl⟩
  rw [hd] at hM hE
  have hzd : z - P = (d : Int) := by omega
  have z0 : 0 ≤ z := by omega
  have z1 : z ≤ 960000 := by omega
  have pp0 : 2 ≤ P := by omega
  have pp1 : P ≤ 400 := by omega
  have zp0 : 0 ≤ z - P := by omega
  have HZ := Lib.hid hz
  have HZD := Lib.hid hzd
  have LX := Lib.hid hl
  have Q0 := Lib.hid q0
  have hlk := digs_len_mono _ _ (Nat.div_le_self q (2 ^ d))
  have hdk : d ≤ 960000 := by omega
  have hlk1 := digs_add_len (q / 2 ^ d) 1
  have l1 : (digs 1).length = 1 := by rw [digs_one (by omega) (by omega)]; rfl
  have LK1 := Lib.hid (show (digs (q / 2 ^ d + 1)).length ≤ 30001 by omega)
  have LK := Lib.hid (show (digs (q / 2 ^ d)).length ≤ 30000 by omega)
  obtain ⟨k, hk⟩ : ∃ k, q / 2 ^ d = k := ⟨_, rfl⟩
  rw [hk] at hM hE LK LK1
  have HK := Lib.hid hk
  have HM := Lib.hid hM
  have HE := Lib.hid (show nx (sg false (k)) (y + (z - P)) = E by rw [hzd]; exact hE)
  have SHR := Lib.hid (fun W (hW : Dg W A c (digs q)) => shr_i (i := z - P) hW (by omega) hzd (by omega))
  rw [hk] at SHR
  have HT := Lib.hid hT
  clear hT
  have L0 := Lib.hid ((live_start w).add h)
  clear h hl hP hb hz hd hzd q0 hM hE hlk hlk1 l1 hk b1
  go_enter Tryd.func83, Tryd.ntmps83
  go_wp2_with fail
  obtain ⟨v1, hW⟩ : ∃ W : World, W = ((w.alloc (.cells #[.bool false, .slice A (digs q).length c, .int .i64 y] 26)).alloc (.cells #[.bool false, .slice none 0 0, .int .i64 0] 26)) := ⟨_, rfl⟩
  rw [← hW]
  have hb : Below w.heap.size w v1 := by rw [hW]; exact (((Below.refl _ _).alloc (by simp <;> omega) _).alloc (by simp <;> omega) _)
  have L1 := Lib.hid (L0.out.step hb)
  have Rx_1 := Lib.hid (show v1.heap[w.heap.size]? = some (.cells #[.bool false, .slice A (digs q).length c, .int .i64 y] 26 (0, 0)) by rw [hW]; have := heap_alloc_new w (.cells #[.bool false, .slice A (digs q).length c, .int .i64 y] 26); rw [heap_alloc_old _ _ (by simp <;> omega)]; simpa using this)
  have Gx : w.heap.size ≤ w.heap.size := by have := L0.out.1.size; omega
  have Rr_1 := Lib.hid (show v1.heap[w.heap.size + 1]? = some (.cells #[.bool false, .slice none 0 0, .int .i64 0] 26 (0, 0)) by rw [hW]; have := heap_alloc_new (w.alloc (.cells #[.bool false, .slice A (digs q).length c, .int .i64 y] 26)) (.cells #[.bool false, .slice none 0 0, .int .i64 0] 26); simpa using this)
  have Gr : w.heap.size ≤ w.heap.size + 1 := by have := L0.out.1.size; omega
  have Nxr : w.heap.size < w.heap.size + 1 := by omega
  clear hW hb
  refine (bits_b (L1.out.get (A := A) (c := c) (xs := digs q) (by simp)) (Nat.le_trans LX.out (by omega)) HZ.out).mono ?_
  rintro e w2 ⟨rfl, rfl⟩
  have fx0 := row_c (i := 0) Rx_1.out rfl
  have zx0 := frozen_of_row _ _ 0 _ _ Rx_1.out
  have fx1 := row_c (i := 1) Rx_1.out rfl
  have zx1 := frozen_of_row _ _ 1 _ _ Rx_1.out
  have fx2 := row_c (i := 2) Rx_1.out rfl
  have zx2 := frozen_of_row _ _ 2 _ _ Rx_1.out
  have xx := heap_lt Rx_1.out
  go_wp2_with fail
  refine (SHR.out _ (L1.out.get (A := A) (c := c) (xs := digs q) (by simp))).mono ?_
  rintro e w3 ⟨A3, c3, rfl, hd, hb⟩
  have L3 := Lib.hid ((L1.out.step hb).add hd)
  clear fx0 zx0 fx1 zx1 fx2 zx2 xx
  have Rx_3 := Lib.hid (cells_of Rx_1.out hb)
  have Rr_3 := Lib.hid (cells_of Rr_1.out hb)
  clear hb hd
  have fx0 := row_c (i := 0) Rx_3.out rfl
  have zx0 := frozen_of_row _ _ 0 _ _ Rx_3.out
  have fx1 := row_c (i := 1) Rx_3.out rfl
  have zx1 := frozen_of_row _ _ 1 _ _ Rx_3.out
  have fx2 := row_c (i := 2) Rx_3.out rfl
  have zx2 := frozen_of_row _ _ 2 _ _ Rx_3.out
  have xx := heap_lt Rx_3.out
  clear fx0 zx0 fx1 zx1 fx2 zx2 xx
  have fx0 := row_c (i := 0) Rx_3.out rfl
  have zx0 := frozen_of_row _ _ 0 _ _ Rx_3.out
  have fx1 := row_c (i := 1) Rx_3.out rfl
  have zx1 := frozen_of_row _ _ 1 _ _ Rx_3.out
  have fx2 := row_c (i := 2) Rx_3.out rfl
  have zx2 := frozen_of_row _ _ 2 _ _ Rx_3.out
  have xx := heap_lt Rx_3.out
  go_wp2_with fail
  refine (odd_any A3 c3 false k (y + (z - P)) M E _ (L3.out.get (A := A3) (c := c3) (xs := digs k) (by simp)) (Nat.le_trans LK.out (by omega)) (t32_live HT.out L3.out) ⟨by omega, by omega⟩ HM.out HE.out).mono ?_
  rintro e w4 ⟨A4, c4, rfl, hd, hb⟩
  have L4 := Lib.hid ((L3.out.step hb).add hd)
  clear fx0 zx0 fx1 zx1 fx2 zx2 xx
  have Rx_4 := Lib.hid (cells_of Rx_3.out hb)
  have Rr_4 := Lib.hid (cells_of Rr_3.out hb)
  clear hb hd
  have fr0 := row_c (i := 0) Rr_4.out rfl
  have zr0 := frozen_of_row _ _ 0 _ _ Rr_4.out
  have fr1 := row_c (i := 1) Rr_4.out rfl
  have zr1 := frozen_of_row _ _ 1 _ _ Rr_4.out
  have fr2 := row_c (i := 2) Rr_4.out rfl
  have zr2 := frozen_of_row _ _ 2 _ _ Rr_4.out
  have xr := heap_lt Rr_4.out
  go_wp2
  refine bodyPost_ret (v := .agg #[.bool (decide (M < 0)), .slice A4 (digs M.natAbs).length c4, .int .i64 E]) (by simp [results, Tryd.results83, go_sem, fr0, fr1, fr2]) rfl ?_
  
  refine ⟨A4, c4, rfl, ?_, ?_⟩
  · exact (fin3 L4.out Rr_4.out noint3 Gr).get (A := A4) (c := c4) (xs := digs M.natAbs) (by simp)
  · exact (fin3 L4.out Rr_4.out noint3 Gr).1

theorem cut_any (A : Option Addr) (c : Nat) (s up more : Bool) (q : Nat) (y P : Int) (p : Nat) (M E : Int) (w : World) (h : Dg w A c (digs q)) (hl : (digs q).length ≤ 30000) (hT : T32 w) (hP : (p : Int) = P) (p2 : 2 ≤ p) (p4 : p ≤ 400) (hb : p ≤ blen q) (y0 : -900000 ≤ y) (y1 : y ≤ 900000) (hM : nm (sg s (kept q p more (up != s))) = M) (hE : nx (sg s (kept q p more (up != s))) (y + (blen q - p : Nat)) = E) :
    Calls Tryd.prog 83 #[.agg #[.bool s, .slice A (digs q).length c, .int .i64 y], .bool more, .int .i64 P, .bool up] w fun e w' => Yr M E w e w' := by
  unfold kept at hM hE
  cases more
  · rcases hlow : decide (q % 2 ^ (blen q - p) ≠ 0) with _ | _
    · rw [hlow] at hM hE
      simp only [Bool.or_self, Bool.false_and, Bool.false_eq_true, if_false, Nat.add_zero] at hM hE
      cases s <;> cases up
      · exact cut_nnf_f A c q y P p M E w h hl hT hP p2 p4 hb y0 y1 hM hE hlow
      · exact cut_nna_t A c q y P p M E w h hl hT hP p2 p4 hb y0 y1 hM hE hlow
      · exact cut_nna_f A c q y P p M E w h hl hT hP p2 p4 hb y0 y1 hM hE hlow
      · exact cut_nnf_t A c q y P p M E w h hl hT hP p2 p4 hb y0 y1 hM hE hlow
    · rw [hlow] at hM hE
      cases s <;> cases up
      · exact cut_nlf_f A c q y P p M E w h hl hT hP p2 p4 hb y0 y1 (by simpa using hM) (by simpa using hE) hlow
      · exact cut_nla_t A c q y P p M E w h hl hT hP p2 p4 hb y0 y1 (by simpa using hM) (by simpa using hE) hlow
      · exact cut_nla_f A c q y P p M E w h hl hT hP p2 p4 hb y0 y1 (by simpa using hM) (by simpa using hE) hlow
      · exact cut_nlf_t A c q y P p M E w h hl hT hP p2 p4 hb y0 y1 (by simpa using hM) (by simpa using hE) hlow
  · cases s <;> cases up
    · exact cut_mlf_f A c q y P p M E w h hl hT hP p2 p4 hb y0 y1 (by simpa using hM) (by simpa using hE)
    · exact cut_mla_t A c q y P p M E w h hl hT hP p2 p4 hb y0 y1 (by simpa using hM) (by simpa using hE)
    · exact cut_mla_f A c q y P p M E w h hl hT hP p2 p4 hb y0 y1 (by simpa using hM) (by simpa using hE)
    · exact cut_mlf_t A c q y P p M E w h hl hT hP p2 p4 hb y0 y1 (by simpa using hM) (by simpa using hE)
end Go.Proofs.YtnfafgpnnpapdaaDoor
end

section
/-
  dyad.Round.
-/
namespace Go.Proofs.YtnfafgpnnpapdaaDoor
open Go.RowKit
set_option linter.unusedSimpArgs false
set_option linter.unusedVariables false
theorem rd_kept {q p : Nat} {more up s : Bool} {r : Rat} {e : Int} (hp : p ≤ blen q) (h1 : 1 ≤ p) (hlo : dv q e ≤ r) (hhi : r < dv (q + 1 : Int) e) (hm : more = decide (r ≠ dv q e)) :
    RdOf (if s then -r else r) p up (nm (sg s (kept q p more (up != s)))) (nx (sg s (kept q p more (up != s))) (e + (blen q - p : Nat))) := by
  have ⟨hs, hr⟩ := kept_rn (away := (up != s)) hp h1 hlo hhi hm
  refine ⟨nf_n _ _, .inr ⟨e + (blen q - p : Nat), sg s (kept q p more (up != s)), ?_, ?_, dv_n _ _⟩⟩
  · cases s
    · exact hs
    · show Sz (-r) _
      unfold Sz at hs ⊢
      rw [Rat.abs_neg]; exact hs
  · cases s
    · have e1 : (up != false) = up := by cases up <;> rfl
      rw [e1] at hr ⊢
      exact hr
    · have e1 : (up != true) = !up := by cases up <;> rfl
      rw [e1] at hr ⊢
      have := hr.neg
      rw [Bool.not_not] at this
      exact this
theorem dv_sign (m x : Int) : dv m x = if decide (m < 0) = true then -dv (m.natAbs : Int) x else dv (m.natAbs : Int) x := by
  by_cases h : m < 0
  · rw [if_pos (by simpa using h), ← dv_neg]; congr 1; omega
  · rw [if_neg (by simpa using h)]; congr 1; omega
theorem precB_in {P : Int} (h0 : 2 ≤ P) (h1 : P ≤ 400) : precB P = true := by unfold precB; rw [decide_eq_true h0, decide_eq_true h1]; rfl

set_option maxHeartbeats 4000000 in
set_option maxRecDepth 100000 in
theorem round_s_ (A : Option Addr) (c : Nat) (m x P M E : Int) (up : Bool) (w : World) (h : Dg w A c (digs m.natAbs)) (hl : (digs m.natAbs).length ≤ 10000) (r1 : Rt m x) (hT : T32 w) {p : Nat} (hP : (p : Int) = P) (p2 : 2 ≤ p) (p4 : p ≤ 400) (hs : RdOf (dv m x) p up M E) (hq : inR M E = true) (hc : bl m ≤ p):
    Calls Tryd.prog 40 #[.agg #[.bool (decide (m < 0)), .slice A (digs m.natAbs).length c, .int .i64 x], .int .i64 P, .bool up] w fun e w' => Ye M E 0 w e w' := by
  have HR1 := Lib.hid r1
  have lx := Lib.hid hl
  have HQ := Lib.hid hq
  have x0 := r1.2.1
  have x1 := r1.2.2
  have LM := Lib.hid (inr_len hq)
  have HPR := Lib.hid (precB_in (P := P) (by omega) (by omega))
  have b1 := bl_bd hl
  obtain ⟨z, hz⟩ : ∃ z : Int, (blen m.natAbs : Int) = z := ⟨_, rfl⟩
  have HZ := Lib.hid hz
  have d1 : decide (z ≤ P) = true := by simp; unfold bl at hc; omega
  obtain ⟨rfl, rfl⟩ := RdOf.uniq (rd_self (up := up) r1.1 hc) hs
  have HT := Lib.hid hT
  clear hT
  have L0 := Lib.hid ((live_start w).add h)
  clear h hl r1 hs hq hP hz b1 hc
  go_enter Tryd.func40, Tryd.ntmps40
  go_wp2_with fail
  obtain ⟨v1, hW⟩ : ∃ W : World, W = (((w.alloc (.cells #[.bool (decide (m < 0)), .slice A (digs m.natAbs).length c, .int .i64 x] 26)).alloc (.cells #[.bool false, .slice none 0 0, .int .i64 0] 26)).alloc (.cells #[.bool (decide (m < 0)), .slice A (digs m.natAbs).length c, .int .i64 x] 26)) := ⟨_, rfl⟩
  rw [← hW]
  have hb : Below w.heap.size w v1 := by rw [hW]; exact ((((Below.refl _ _).alloc (by simp <;> omega) _).alloc (by simp <;> omega) _).alloc (by simp <;> omega) _)
  have L1 := Lib.hid (L0.out.step hb)
  have Rx_1 := Lib.hid (show v1.heap[w.heap.size]? = some (.cells #[.bool (decide (m < 0)), .slice A (digs m.natAbs).length c, .int .i64 x] 26 (0, 0)) by rw [hW]; have := heap_alloc_new w (.cells #[.bool (decide (m < 0)), .slice A (digs m.natAbs).length c, .int .i64 x] 26); rw [heap_alloc_old _ _ (by simp <;> omega)]; rw [heap_alloc_old _ _ (by simp <;> omega)]; simpa using this)
  have Gx : w.heap.size ≤ w.heap.size := by have := L0.out.1.size; omega
  have Rr_1 := Lib.hid (show v1.heap[w.heap.size + 1]? = some (.cells #[.bool false, .slice none 0 0, .int .i64 0] 26 (0, 0)) by rw [hW]; have := heap_alloc_new (w.alloc (.cells #[.bool (decide (m < 0)), .slice A (digs m.natAbs).length c, .int .i64 x] 26)) (.cells #[.bool false, .slice none 0 0, .int .i64 0] 26); rw [heap_alloc_old _ _ (by simp <;> omega)]; simpa using this)
  have Gr : w.heap.size ≤ w.heap.size + 1 := by have := L0.out.1.size; omega
  have Nxr : w.heap.size < w.heap.size + 1 := by omega
  have Rsl_1 := Lib.hid (show v1.heap[w.heap.size + 1 + 1]? = some (.cells #[.bool (decide (m < 0)), .slice A (digs m.natAbs).length c, .int .i64 x] 26 (0, 0)) by rw [hW]; have := heap_alloc_new ((w.alloc (.cells #[.bool (decide (m < 0)), .slice A (digs m.natAbs).length c, .int .i64 x] 26)).alloc (.cells #[.bool false, .slice none 0 0, .int .i64 0] 26)) (.cells #[.bool (decide (m < 0)), .slice A (digs m.natAbs).length c, .int .i64 x] 26); simpa using this)
  have Gsl : w.heap.size ≤ w.heap.size + 1 + 1 := by have := L0.out.1.size; omega
  have Nxsl : w.heap.size < w.heap.size + 1 + 1 := by omega
  have Nrsl : w.heap.size + 1 < w.heap.size + 1 + 1 := by omega
  clear hW hb
  refine (begin_1 Rsl_1.out (L1.out.get (A := A) (c := c) (xs := digs m.natAbs) (by simp)) (dyR_num HR1.out) (Nat.le_trans lx.out (by omega)) (k := 0) rfl).mono ?_
  rintro e w2 ⟨rfl, hb⟩
  have L2 := Lib.hid (L1.out.step hb)
  have Rx_2 := Lib.hid (cells_of Rx_1.out hb)
  have Rr_2 := Lib.hid (cells_of Rr_1.out hb)
  have Rsl_2 := Lib.hid (cells_of Rsl_1.out hb)
  clear hb 
  go_wp2_with fail
  obtain ⟨w3, hW⟩ : ∃ W : World, W = (w2.alloc (.cells #[.int .i64 0] 79)) := ⟨_, rfl⟩
  rw [← hW]
  have hb : Below w2.heap.size w2 w3 := by rw [hW]; exact ((Below.refl _ _).alloc (by simp <;> omega) _)
  have L3 := Lib.hid (L2.out.step hb)
  have Rx_3 := Lib.hid (cells_of Rx_2.out hb)
  have Rr_3 := Lib.hid (cells_of Rr_2.out hb)
  have Rsl_3 := Lib.hid (cells_of Rsl_2.out hb)
  have Rk_3 := Lib.hid (show w3.heap[w2.heap.size]? = some (.cells #[.int .i64 0] 79 (0, 0)) by rw [hW]; have := heap_alloc_new w2 (.cells #[.int .i64 0] 79); simpa using this)
  have Gk : w.heap.size ≤ w2.heap.size := by have := L2.out.1.size; omega
  have Nxk : w.heap.size < w2.heap.size := by have := heap_lt Rx_2.out; omega
  have Nrk : w.heap.size + 1 < w2.heap.size := by have := heap_lt Rr_2.out; omega
  have Nslk : w.heap.size + 1 + 1 < w2.heap.size := by have := heap_lt Rsl_2.out; omega
  clear hW hb
  refine (precision_no _ 0 P _ (row_c Rk_3.out (i := 0) rfl) (.inl HPR.out)).mono ?_
  rintro e w4 ⟨rfl, rfl⟩
  go_wp2_with fail
  refine (fails_any _ 0 false _ (row_c Rk_3.out (i := 0) rfl) rfl).mono ?_
  rintro e w5 ⟨rfl, rfl⟩
  have fx0 := row_c (i := 0) Rx_3.out rfl
  have zx0 := frozen_of_row _ _ 0 _ _ Rx_3.out
  have fx1 := row_c (i := 1) Rx_3.out rfl
  have zx1 := frozen_of_row _ _ 1 _ _ Rx_3.out
  have fx2 := row_c (i := 2) Rx_3.out rfl
  have zx2 := frozen_of_row _ _ 2 _ _ Rx_3.out
  have xx := heap_lt Rx_3.out
  go_wp2_with fail
  refine (bits_b (L3.out.get (A := A) (c := c) (xs := digs m.natAbs) (by simp)) (Nat.le_trans lx.out (by omega)) HZ.out).mono ?_
  rintro e w6 ⟨rfl, rfl⟩
  clear fx0 zx0 fx1 zx1 fx2 zx2 xx
  have fx0 := row_c (i := 0) Rx_3.out rfl
  have zx0 := frozen_of_row _ _ 0 _ _ Rx_3.out
  have fx1 := row_c (i := 1) Rx_3.out rfl
  have zx1 := frozen_of_row _ _ 1 _ _ Rx_3.out
  have fx2 := row_c (i := 2) Rx_3.out rfl
  have zx2 := frozen_of_row _ _ 2 _ _ Rx_3.out
  have xx := heap_lt Rx_3.out
  go_wp2_with fail
  refine (answer_d (row_c Rk_3.out (i := 0) rfl) (heap_lt Rk_3.out) (L3.out.get (A := A) (c := c) (xs := digs m.natAbs) (by simp)) (Nat.le_trans LM.out (by omega)) HQ.out).mono ?_
  rintro e w7 ⟨A7, c7, rfl, hd, hb⟩
  have L7 := Lib.hid ((L3.out.step hb).add hd)
  clear fx0 zx0 fx1 zx1 fx2 zx2 xx
  have Rx_7 := Lib.hid (cells_of Rx_3.out hb)
  have Rr_7 := Lib.hid (cells_of Rr_3.out hb)
  have Rsl_7 := Lib.hid (cells_of Rsl_3.out hb)
  have Rk_7 := Lib.hid (cells_of Rk_3.out hb)
  clear hb hd
  have fr0 := row_c (i := 0) Rr_7.out rfl
  have zr0 := frozen_of_row _ _ 0 _ _ Rr_7.out
  have fr1 := row_c (i := 1) Rr_7.out rfl
  have zr1 := frozen_of_row _ _ 1 _ _ Rr_7.out
  have fr2 := row_c (i := 2) Rr_7.out rfl
  have zr2 := frozen_of_row _ _ 2 _ _ Rr_7.out
  have xr := heap_lt Rr_7.out
  go_wp2
  refine bodyPost_ret (v := .tuple #[.agg #[.bool (decide (m < 0)), .slice A7 (digs m.natAbs).length c7, .int .i64 x], .int .i64 0]) (by simp [results, Tryd.results40, go_sem, fr0, fr1, fr2]) rfl ?_
  
  refine ⟨A7, c7, rfl, ?_, ?_⟩
  · exact (fin3 L7.out Rr_7.out noint3 Gr).get (A := A7) (c := c7) (xs := digs m.natAbs) (by simp)
  · exact (fin3 L7.out Rr_7.out noint3 Gr).1

set_option maxHeartbeats 4000000 in
set_option maxRecDepth 100000 in
theorem round_b_ (A : Option Addr) (c : Nat) (m x P M E : Int) (up : Bool) (w : World) (h : Dg w A c (digs m.natAbs)) (hl : (digs m.natAbs).length ≤ 10000) (r1 : Rt m x) (hT : T32 w) {p : Nat} (hP : (p : Int) = P) (p2 : 2 ≤ p) (p4 : p ≤ 400) (hs : RdOf (dv m x) p up M E) (hq : inR M E = true) (hc : p < bl m):
    Calls Tryd.prog 40 #[.agg #[.bool (decide (m < 0)), .slice A (digs m.natAbs).length c, .int .i64 x], .int .i64 P, .bool up] w fun e w' => Ye M E 0 w e w' := by
  have HR1 := Lib.hid r1
  have lx := Lib.hid hl
  have HQ := Lib.hid hq
  have x0 := r1.2.1
  have x1 := r1.2.2
  have LM := Lib.hid (inr_len hq)
  have HPR := Lib.hid (precB_in (P := P) (by omega) (by omega))
  have b1 := bl_bd hl
  obtain ⟨z, hz⟩ : ∃ z : Int, (blen m.natAbs : Int) = z := ⟨_, rfl⟩
  have HZ := Lib.hid hz
  have d1 : decide (z ≤ P) = false := by simp; unfold bl at hc; omega
  have hk := rd_kept (q := m.natAbs) (p := p) (more := false) (up := up) (s := decide (m < 0)) (r := dv (m.natAbs : Int) x) (e := x) (by unfold bl at hc; omega) (by omega) Rat.le_refl (dv_lt.2 (by omega)) (by simp)
  rw [← dv_sign] at hk
  have hu := RdOf.uniq hk hs
  have HM := Lib.hid hu.1
  have HE := Lib.hid hu.2
  have HP2 := Lib.hid hP
  have HB := Lib.hid (show p ≤ blen m.natAbs by unfold bl at hc; omega)
  have HT := Lib.hid hT
  clear hT
  have L0 := Lib.hid ((live_start w).add h)
  clear h hl r1 hs hq hP hz b1 hc hk hu
  go_enter Tryd.func40, Tryd.ntmps40
  go_wp2_with fail
  obtain ⟨v1, hW⟩ : ∃ W : World, W = (((w.alloc (.cells #[.bool (decide (m < 0)), .slice A (digs m.natAbs).length c, .int .i64 x] 26)).alloc (.cells #[.bool false, .slice none 0 0, .int .i64 0] 26)).alloc (.cells #[.bool (decide (m < 0)), .slice A (digs m.natAbs).length c, .int .i64 x] 26)) := ⟨_, rfl⟩
  rw [← hW]
  have hb : Below w.heap.size w v1 := by rw [hW]; exact ((((Below.refl _ _).alloc (by simp <;> omega) _).alloc (by simp <;> omega) _).alloc (by simp <;> omega) _)
  have L1 := Lib.hid (L0.out.step hb)
  have Rx_1 := Lib.hid (show v1.heap[w.heap.size]? = some (.cells #[.bool (decide (m < 0)), .slice A (digs m.natAbs).length c, .int .i64 x] 26 (0, 0)) by rw [hW]; have := heap_alloc_new w (.cells #[.bool (decide (m < 0)), .slice A (digs m.natAbs).length c, .int .i64 x] 26); rw [heap_alloc_old _ _ (by simp <;> omega)]; rw [heap_alloc_old _ _ (by simp <;> omega)]; simpa using this)
  have Gx : w.heap.size ≤ w.heap.size := by have := L0.out.1.size; omega
  have Rr_1 := Lib.hid (show v1.heap[w.heap.size + 1]? = some (.cells #[.bool false, .slice none 0 0, .int .i64 0] 26 (0, 0)) by rw [hW]; have := heap_alloc_new (w.alloc (.cells #[.bool (decide (m < 0)), .slice A (digs m.natAbs).length c, .int .i64 x] 26)) (.cells #[.bool false, .slice none 0 0, .int .i64 0] 26); rw [heap_alloc_old _ _ (by simp <;> omega)]; simpa using this)
  have Gr : w.heap.size ≤ w.heap.size + 1 := by have := L0.out.1.size; omega
  have Nxr : w.heap.size < w.heap.size + 1 := by omega
  have Rsl_1 := Lib.hid (show v1.heap[w.heap.size + 1 + 1]? = some (.cells #[.bool (decide (m < 0)), .slice A (digs m.natAbs).length c, .int .i64 x] 26 (0, 0)) by rw [hW]; have := heap_alloc_new ((w.alloc (.cells #[.bool (decide (m < 0)), .slice A (digs m.natAbs).length c, .int .i64 x] 26)).alloc (.cells #[.bool false, .slice none 0 0, .int .i64 0] 26)) (.cells #[.bool (decide (m < 0)), .slice A (digs m.natAbs).length c, .int .i64 x] 26); simpa using this)
  have Gsl : w.heap.size ≤ w.heap.size + 1 + 1 := by have := L0.out.1.size; omega
  have Nxsl : w.heap.size < w.heap.size + 1 + 1 := by omega
  have Nrsl : w.heap.size + 1 < w.heap.size + 1 + 1 := by omega
  clear hW hb
  refine (begin_1 Rsl_1.out (L1.out.get (A := A) (c := c) (xs := digs m.natAbs) (by simp)) (dyR_num HR1.out) (Nat.le_trans lx.out (by omega)) (k := 0) rfl).mono ?_
  rintro e w2 ⟨rfl, hb⟩
  have L2 := Lib.hid (L1.out.step hb)
  have Rx_2 := Lib.hid (cells_of Rx_1.out hb)
  have Rr_2 := Lib.hid (cells_of Rr_1.out hb)
  have Rsl_2 := Lib.hid (cells_of Rsl_1.out hb)
  clear hb 
  go_wp2_with fail
  obtain ⟨w3, hW⟩ : ∃ W : World, W = (w2.alloc (.cells #[.int .i64 0] 79)) := ⟨_, rfl⟩
  rw [← hW]
  have hb : Below w2.heap.size w2 w3 := by rw [hW]; exact ((Below.refl _ _).alloc (by simp <;> omega) _)
  have L3 := Lib.hid (L2.out.step hb)
  have Rx_3 := Lib.hid (cells_of Rx_2.out hb)
  have Rr_3 := Lib.hid (cells_of Rr_2.out hb)
  have Rsl_3 := Lib.hid (cells_of Rsl_2.out hb)
  have Rk_3 := Lib.hid (show w3.heap[w2.heap.size]? = some (.cells #[.int .i64 0] 79 (0, 0)) by rw [hW]; have := heap_alloc_new w2 (.cells #[.int .i64 0] 79); simpa using this)
  have Gk : w.heap.size ≤ w2.heap.size := by have := L2.out.1.size; omega
  have Nxk : w.heap.size < w2.heap.size := by have := heap_lt Rx_2.out; omega
  have Nrk : w.heap.size + 1 < w2.heap.size := by have := heap_lt Rr_2.out; omega
  have Nslk : w.heap.size + 1 + 1 < w2.heap.size := by have := heap_lt Rsl_2.out; omega
  clear hW hb
  refine (precision_no _ 0 P _ (row_c Rk_3.out (i := 0) rfl) (.inl HPR.out)).mono ?_
  rintro e w4 ⟨rfl, rfl⟩
  go_wp2_with fail
  refine (fails_any _ 0 false _ (row_c Rk_3.out (i := 0) rfl) rfl).mono ?_
  rintro e w5 ⟨rfl, rfl⟩
  have fx0 := row_c (i := 0) Rx_3.out rfl
  have zx0 := frozen_of_row _ _ 0 _ _ Rx_3.out
  have fx1 := row_c (i := 1) Rx_3.out rfl
  have zx1 := frozen_of_row _ _ 1 _ _ Rx_3.out
  have fx2 := row_c (i := 2) Rx_3.out rfl
  have zx2 := frozen_of_row _ _ 2 _ _ Rx_3.out
  have xx := heap_lt Rx_3.out
  go_wp2_with fail
  refine (bits_b (L3.out.get (A := A) (c := c) (xs := digs m.natAbs) (by simp)) (Nat.le_trans lx.out (by omega)) HZ.out).mono ?_
  rintro e w6 ⟨rfl, rfl⟩
  clear fx0 zx0 fx1 zx1 fx2 zx2 xx
  have fx0 := row_c (i := 0) Rx_3.out rfl
  have zx0 := frozen_of_row _ _ 0 _ _ Rx_3.out
  have fx1 := row_c (i := 1) Rx_3.out rfl
  have zx1 := frozen_of_row _ _ 1 _ _ Rx_3.out
  have fx2 := row_c (i := 2) Rx_3.out rfl
  have zx2 := frozen_of_row _ _ 2 _ _ Rx_3.out
  have xx := heap_lt Rx_3.out
  go_wp2_with fail
  refine (cut_any A c (decide (m < 0)) up false m.natAbs x P p M E _ (L3.out.get (A := A) (c := c) (xs := digs m.natAbs) (by simp)) (Nat.le_trans lx.out (by omega)) (t32_live HT.out L3.out) HP2.out p2 p4 HB.out (by omega) (by omega) HM.out HE.out).mono ?_
  rintro e w7 ⟨A7, c7, rfl, hd, hb⟩
  have L7 := Lib.hid ((L3.out.step hb).add hd)
  clear fx0 zx0 fx1 zx1 fx2 zx2 xx
  have Rx_7 := Lib.hid (cells_of Rx_3.out hb)
  have Rr_7 := Lib.hid (cells_of Rr_3.out hb)
  have Rsl_7 := Lib.hid (cells_of Rsl_3.out hb)
  have Rk_7 := Lib.hid (cells_of Rk_3.out hb)
  clear hb hd
  go_wp2_with fail
  refine (answer_d (row_c Rk_7.out (i := 0) rfl) (heap_lt Rk_7.out) (L7.out.get (A := A7) (c := c7) (xs := digs M.natAbs) (by simp)) (Nat.le_trans LM.out (by omega)) HQ.out).mono ?_
  rintro e w8 ⟨A8, c8, rfl, hd, hb⟩
  have L8 := Lib.hid ((L7.out.step hb).add hd)
  have Rx_8 := Lib.hid (cells_of Rx_7.out hb)
  have Rr_8 := Lib.hid (cells_of Rr_7.out hb)
  have Rsl_8 := Lib.hid (cells_of Rsl_7.out hb)
  have Rk_8 := Lib.hid (cells_of Rk_7.out hb)
  clear hb hd
  have fr0 := row_c (i := 0) Rr_8.out rfl
  have zr0 := frozen_of_row _ _ 0 _ _ Rr_8.out
  have fr1 := row_c (i := 1) Rr_8.out rfl
  have zr1 := frozen_of_row _ _ 1 _ _ Rr_8.out
  have fr2 := row_c (i := 2) Rr_8.out rfl
  have zr2 := frozen_of_row _ _ 2 _ _ Rr_8.out
  have xr := heap_lt Rr_8.out
  go_wp2
  refine bodyPost_ret (v := .tuple #[.agg #[.bool (decide (M < 0)), .slice A8 (digs M.natAbs).length c8, .int .i64 E], .int .i64 0]) (by simp [results, Tryd.results40, go_sem, fr0, fr1, fr2]) rfl ?_
  
  refine ⟨A8, c8, rfl, ?_, ?_⟩
  · exact (fin3 L8.out Rr_8.out noint3 Gr).get (A := A8) (c := c8) (xs := digs M.natAbs) (by simp)
  · exact (fin3 L8.out Rr_8.out noint3 Gr).1

theorem round_yes {A : Option Addr} {c : Nat} {m x P M E : Int} {up : Bool} {w : World} (h : Dg w A c (digs m.natAbs)) (hl : (digs m.natAbs).length ≤ 10000) (r1 : Rt m x) (hT : T32 w) {p : Nat} (hP : (p : Int) = P) (p2 : 2 ≤ p) (p4 : p ≤ 400) (hs : RdOf (dv m x) p up M E) (hq : inR M E = true) :
    Calls Tryd.prog 40 #[.agg #[.bool (decide (m < 0)), .slice A (digs m.natAbs).length c, .int .i64 x], .int .i64 P, .bool up] w fun e w' => Ye M E 0 w e w' := by
  by_cases hc : bl m ≤ p
  · exact round_s_ A c m x P M E up w h hl r1 hT hP p2 p4 hs hq hc
  · exact round_b_ A c m x P M E up w h hl r1 hT hP p2 p4 hs hq (by omega)
end Go.Proofs.YtnfafgpnnpapdaaDoor
end
