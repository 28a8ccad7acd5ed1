/-
  The reference's own text (astrolaberef03): DivMod whole, Gcd, Sqrt.
-/
import Derived.Test.YtceningojnfgpaaQref2
namespace Go.Proofs.Ytceningojnfgpaa
open Go.RowKit
set_option maxHeartbeats 2000000 in
theorem rdivmod_no (A B : Option Addr) (c d : Nat) (xs ys : List Nat) (w : World) (h : Dg w A c xs) (h' : Dg w B d ys) (hl' : ys.length ≤ 100000) (y0 : val ys = 0) :
    Calls Try.prog 13 #[.slice A xs.length c, .slice B ys.length d] w fun e w' => e = .returned (.tuple #[.slice none 0 0, .slice none 0 0, .bool false]) ∧ Below w.heap.size w w' := by
  have L0 := Lib.hid (((live_start w).add h).add h')
  have t0 : (((digs (val ys)).length : Int) == 0) = true := by rw [y0, digs_zero]; rfl
  clear h h' y0
  go_enter Try.func13, Try.ntmps13
  go_wp2_with fail
  refine Calls.mono (rtrim_l (xs := ys) (x := val ys) L0.out (by simp) rfl rfl (by omega)) ?_
  rintro e w1 ⟨A1, c1, rfl, h1⟩
  have L1 := Lib.hid h1
  clear h1
  go_wp2
  go_ret3
  exact ⟨rfl, L1.out.1⟩
set_option maxHeartbeats 2000000 in
theorem rdivmod_one (A B : Option Addr) (c d : Nat) (xs ys : List Nat) (w : World) (h : Dg w A c xs) (h' : Dg w B d ys) (hl : xs.length ≤ 100000) (hl' : ys.length ≤ 100000) (h1 : (digs (val ys)).length = 1) :
    Calls Try.prog 13 #[.slice A xs.length c, .slice B ys.length d] w fun e w' => ∃ A' c' B' d', e = .returned (.tuple #[.slice A' (digs (val xs / val ys)).length c', .slice B' (digs (val xs % val ys)).length d', .bool true]) ∧ Dg w' A' c' (digs (val xs / val ys)) ∧ Dg w' B' d' (digs (val xs % val ys)) ∧ Below w.heap.size w w' := by
  have L0 := Lib.hid (((live_start w).add h).add h')
  have t0 : (((digs (val ys)).length : Int) == 0) = false := by rw [h1]; rfl
  have t1 : (((digs (val ys)).length : Int) == 1) = true := by rw [h1]; rfl
  have vy := val_digs (val ys)
  have e2 : val ys = (digs (val ys))[0]?.getD 0 := by
    rcases hd : digs (val ys) with _ | ⟨z, _ | ⟨z', r⟩⟩
    · rw [hd] at h1; simp at h1
    · rw [hd] at vy; simp only [val] at vy; simp; omega
    · rw [hd] at h1; simp at h1
  have b2 : val ys < 4294967296 := by rw [e2]; exact getD_lt (ok_digs _) 0
  have b0 : 0 < val ys := by
    rcases Nat.eq_zero_or_pos (val ys) with h0 | h0
    · rw [h0, digs_zero] at h1; simp at h1
    · exact h0
  have E2 := Lib.hid e2
  have y1 : 0 < (digs (val ys)).length := by omega
  have Y1 := Lib.hid h1
  clear h h' h1 vy e2
  go_enter Try.func13, Try.ntmps13
  go_wp2_with fail
  refine Calls.mono (rtrim_l (xs := ys) (x := val ys) L0.out (by simp) rfl rfl (by omega)) ?_
  rintro e w1 ⟨A1, c1, rfl, h1⟩
  have L1 := Lib.hid h1
  obtain ⟨b, off, hB, hb, hcy⟩ := (L1.out.get (A := A1) (c := c1) (xs := digs (val ys)) (by simp)).2.2 y1
  have hc0 := hcy 0 y1
  rw [Nat.add_zero, ← E2.out] at hc0
  have HG := Lib.hid (rshort_any A c (val ys) xs w1 (L1.out.get (by simp)) (by omega) b0 b2)
  subst hB
  clear h1 hcy
  go_wp2_with fail
  refine HG.out.mono ?_
  rintro e w4 ⟨A4, c4, A5, c5, rfl, g4, g5, hb5⟩
  have G4 := Lib.hid g4
  have G5 := Lib.hid g5
  have HB := Lib.hid (L1.out.step hb5)
  clear g4 g5 hb5
  go_wp2
  go_ret3
  exact ⟨A4, c4, A5, c5, rfl, G4.out, G5.out, HB.out.1⟩
theorem rdivmod_any (A B : Option Addr) (c d : Nat) (xs ys : List Nat) (w : World) (h : Dg w A c xs) (h' : Dg w B d ys) (hl : xs.length ≤ 100000) (hl' : ys.length ≤ 100000) (y0 : val ys ≠ 0) :
    Calls Try.prog 13 #[.slice A xs.length c, .slice B ys.length d] w fun e w' => ∃ A' c' B' d', e = .returned (.tuple #[.slice A' (digs (val xs / val ys)).length c', .slice B' (digs (val xs % val ys)).length d', .bool true]) ∧ Dg w' A' c' (digs (val xs / val ys)) ∧ Dg w' B' d' (digs (val xs % val ys)) ∧ Below w.heap.size w w' := by
  by_cases h1 : (digs (val ys)).length = 1
  · exact rdivmod_one A B c d xs ys w h h' hl hl' h1
  · have h0 : (digs (val ys)).length ≠ 0 := fun e => y0 (digs_nil.1 e)
    exact rdivmod_long A B c d xs ys w h h' hl hl' (by omega)
section
variable {w0 w w' : World} {L : List (Option Addr × Nat × List Nat)} {A B : Option Addr} {c d n m : Nat} {xs ys : List Nat} {x y : Nat}
theorem rdivmod_l (hL : Live w0 w L) (h1 : (A, c, xs) ∈ L) (h2 : (B, d, ys) ∈ L) (hn : n = xs.length) (hm : m = ys.length) (hx : val xs = x) (hy : val ys = y) (b1 : xs.length ≤ 100000) (b2 : ys.length ≤ 100000) (y0 : y ≠ 0) :
    Calls Try.prog 13 #[.slice A n c, .slice B m d] w fun e w' => ∃ A' c' B' d', e = .returned (.tuple #[.slice A' (digs (x / y)).length c', .slice B' (digs (x % y)).length d', .bool true]) ∧ Live w0 w' ((B', d', digs (x % y)) :: (A', c', digs (x / y)) :: L) := by
  subst hn hm hx hy
  exact (rdivmod_any A B c d xs ys w (hL.get h1) (hL.get h2) b1 b2 y0).mono fun _ _ ⟨A', c', B', d', he, hd, hd', hb⟩ => ⟨A', c', B', d', he, ((hL.step hb).add hd).add hd'⟩
theorem rdivmod_l_no (hL : Live w0 w L) (h1 : (A, c, xs) ∈ L) (h2 : (B, d, ys) ∈ L) (hn : n = xs.length) (hm : m = ys.length) (hy : val ys = 0) (b2 : ys.length ≤ 100000) :
    Calls Try.prog 13 #[.slice A n c, .slice B m d] w fun e w' => e = .returned (.tuple #[.slice none 0 0, .slice none 0 0, .bool false]) ∧ Live w0 w' L := by
  subst hn hm
  exact (rdivmod_no A B c d xs ys w (hL.get h1) (hL.get h2) b2 hy).mono fun _ _ ⟨he, hb⟩ => ⟨he, hL.step hb⟩
end
set_option maxHeartbeats 4000000 in
theorem rgcd_any (A B : Option Addr) (c d : Nat) (xs ys : List Nat) (w : World) (h : Dg w A c xs) (h' : Dg w B d ys) (hl : xs.length ≤ 100000) (hl' : ys.length ≤ 100000) :
    Calls Try.prog 16 #[.slice A xs.length c, .slice B ys.length d] w fun e w' => ∃ A' c', e = .returned (.slice A' (digs (Nat.gcd (val xs) (val ys))).length c') ∧ Dg w' A' c' (digs (Nat.gcd (val xs) (val ys))) ∧ Below w.heap.size w w' := by
  have L0 := Lib.hid (((live_start w).add h).add h')
  have l1 := digs_len_le h.2.1
  have l2 := digs_len_le h'.2.1
  clear h h'
  go_enter Try.func16, Try.ntmps16
  go_wp2_with fail
  refine Calls.mono (rtrim_l (xs := xs) (x := val xs) L0.out (by simp) rfl rfl (by omega)) ?_
  rintro e w1 ⟨A1, c1, rfl, h1⟩
  have L1 := Lib.hid h1
  clear h1
  go_wp2_with fail
  refine Calls.mono (rtrim_l (xs := ys) (x := val ys) L1.out (by simp) rfl rfl (by omega)) ?_
  rintro e w2 ⟨A2, c2, rfl, h1⟩
  have L2 := Lib.hid h1
  clear h1
  go_wp2
  go_loopg [5, 6] (val ys) (fun g a b wr => ∃ (A3 B3 : Option Addr) (c3 d3 X : Nat), a = .slice A3 (digs X).length c3 ∧ b = .slice B3 (digs g).length d3 ∧ Hid (Nat.gcd X g = Nat.gcd (val xs) (val ys)) ∧ (digs X).length ≤ 100000 ∧ (digs g).length ≤ 100000 ∧
    Hid (Dg wr A3 c3 (digs X)) ∧ Hid (Dg wr B3 d3 (digs g)) ∧ Hid (Below w.heap.size w wr))
  case atStart => exact ⟨A1, A2, c1, c2, val xs, rfl, rfl, rfl, by omega, by omega, L2.out.get (by simp), L2.out.get (by simp), L2.out.1⟩
  case round =>
    obtain ⟨A3, B3, c3, d3, X, rfl, rfl, HG, b1, b2, D1, D2, HB⟩ := hrel
    by_cases h0 : gk = 0
    · subst h0
      rw [digs_zero]
      have HE := Lib.hid (show X = Nat.gcd (val xs) (val ys) by rw [← HG.out, Nat.gcd_zero_right])
      go_wp2
      go_ret
      rw [← HE.out]
      exact ⟨A3, c3, rfl, D1.out, HB.out⟩
    · have t0 : 0 < (digs gk).length := by
        rcases Nat.eq_zero_or_pos (digs gk).length with h1 | h1
        · exact absurd (digs_nil.1 h1) h0
        · exact h1
      have l3 := digs_len_mono _ _ (Nat.le_of_lt (Nat.mod_lt X (Nat.pos_of_ne_zero h0)))
      have HD := rdivmod_any A3 B3 c3 d3 (digs X) (digs gk) wr D1.out D2.out b1 b2 (by rw [val_digs]; exact h0)
      rw [val_digs, val_digs] at HD
      have HDM := Lib.hid HD
      have H0 := Lib.hid h0
      clear HD h0
      go_wp2_with fail
      refine HDM.out.mono ?_
      rintro e w4 ⟨A4, c4, A5, c5, rfl, g4, g5, hb5⟩
      have G4 := Lib.hid g4
      have G5 := Lib.hid g5
      have HB5 := Lib.hid hb5
      clear g4 g5 hb5
      go_wp2
      go_roundg (X % gk)
      case measure => exact Nat.mod_lt _ (Nat.pos_of_ne_zero H0.out)
      case rel => exact ⟨B3, A5, d3, c5, gk, rfl, rfl, (gcd_step X gk).trans HG.out, b2, by omega, D2.out.below HB5.out, G5.out, HB.out.trans (HB5.out.mono HB.out.size)⟩
/-- What stands between two bits of the reference's root. -/
structure Sq (x k s r : Nat) : Prop where
  eq : s * s + r = x
  lt : x < (s + 2 ^ k) * (s + 2 ^ k)
theorem Sq.start (x k : Nat) (h : blen x ≤ 2 * k) : Sq x k 0 x :=
  ⟨by omega, by rw [Nat.zero_add, ← Nat.pow_add]; exact Nat.lt_of_lt_of_le (blen_lt x) (Nat.pow_le_pow_right (by omega) (by omega))⟩
theorem sq_part (s k : Nat) : (s + 2 ^ k) * (s + 2 ^ k) = s * s + (s * 2 ^ 1 + 2 ^ k) * 2 ^ k := by
  rw [Nat.pow_one, Nat.add_mul s (2 ^ k) (s + 2 ^ k), Nat.mul_add, Nat.mul_add, Nat.add_mul (s * 2), Nat.mul_comm (2 ^ k) s, Nat.mul_assoc s 2]
  have : s * (2 * 2 ^ k) = 2 * (s * 2 ^ k) := by rw [Nat.mul_left_comm]
  omega
theorem Sq.yes {x k s r : Nat} (h : Sq x (k + 1) s r) (hp : (s * 2 ^ 1 + 2 ^ k) * 2 ^ k ≤ r) : Sq x k (s + 2 ^ k) (r - (s * 2 ^ 1 + 2 ^ k) * 2 ^ k) := by
  refine ⟨?_, ?_⟩
  · rw [sq_part]; have := h.eq; omega
  · have := h.lt; rw [Nat.pow_succ] at this; rw [show s + 2 ^ k + 2 ^ k = s + 2 ^ k * 2 by omega]; exact this
theorem Sq.no {x k s r : Nat} (h : Sq x (k + 1) s r) (hp : ¬ (s * 2 ^ 1 + 2 ^ k) * 2 ^ k ≤ r) : Sq x k s r := by
  refine ⟨h.eq, ?_⟩
  rw [sq_part]; have := h.eq; omega
theorem Sq.done {x s r : Nat} (h : Sq x 0 s r) : s = rt x ∧ r = x - rt x * rt x := by
  have h1 := h.eq
  have h2 := h.lt
  rw [Nat.pow_zero] at h2
  have h3 := rt_is (n := x) (s := s) (by omega) h2
  refine ⟨h3, ?_⟩
  rw [← h3]; omega
theorem Sq.small {x k s r : Nat} (h : Sq x k s r) : s ≤ x ∧ r ≤ x := by
  have h1 := h.eq
  refine ⟨?_, by omega⟩
  rcases Nat.eq_zero_or_pos s with h0 | h0
  · omega
  · have := Nat.le_mul_of_pos_left s h0; omega
set_option maxHeartbeats 8000000 in
theorem rsqrt_any (A : Option Addr) (c : Nat) (xs : List Nat) (w : World) (h : Dg w A c xs) (hl : xs.length ≤ 3000) :
    Calls Try.prog 18 #[.slice A xs.length c] w fun e w' => ∃ A' c' B' d', e = .returned (.tuple #[.slice A' (digs (rt (val xs))).length c', .slice B' (digs (val xs - rt (val xs) * rt (val xs))).length d']) ∧ Dg w' A' c' (digs (rt (val xs))) ∧ Dg w' B' d' (digs (val xs - rt (val xs) * rt (val xs))) ∧ Below w.heap.size w w' := by
  have L0 := Lib.hid ((live_start w).add h)
  have hb : blen (val xs) ≤ 32 * xs.length := bits_le _ _ (by have := val_lt h.2.1; rwa [show (4294967296 : Nat) ^ xs.length = 2 ^ (32 * xs.length) by rw [Nat.pow_mul]] at this)
  have lx := digs_len_le h.2.1
  obtain ⟨x, hx⟩ : ∃ x, val xs = x := ⟨_, rfl⟩
  have HX := Lib.hid hx
  rw [hx] at hb lx
  rw [hx]
  have hk : ∃ k : Nat, IntKind.i64.wrap (((blen x : Int) - 1).tdiv 2) = (k : Int) ∧ blen x ≤ 2 * (k + 1) ∧ k ≤ 48000 := by
    rcases Nat.eq_zero_or_pos (blen x) with h0 | h0
    · refine ⟨0, by rw [h0]; rfl, by omega, by omega⟩
    · refine ⟨(blen x - 1) / 2, ?_, by omega, by omega⟩
      rw [Int.tdiv_eq_ediv_of_nonneg (by omega)]
      rw [IntWalk.i64_in _ (by omega)]
      omega
  obtain ⟨k0, hk0, hk1, hk2⟩ := hk
  have HK := Lib.hid hk1
  clear h hx hk1
  go_enter Try.func18, Try.ntmps18
  go_wp2_with fail
  refine Calls.mono (rtrim_l (xs := xs) (x := x) L0.out (by simp) rfl HX.out (by omega)) ?_
  rintro e w1 ⟨A1, c1, rfl, h1⟩
  have L1 := Lib.hid h1
  clear h1
  go_wp2_with fail
  refine Calls.mono (rbits_l (xs := xs) (x := x) (q := (blen x : Int)) L1.out (by simp) rfl HX.out (by omega) rfl) ?_
  rintro e w2 ⟨rfl, h1⟩
  have L2 := Lib.hid h1
  clear h1
  have hs0 : (digs x).length ≤ 3000 := by omega
  go_wp2
  go_loopw [4, 5, 6] (fun sv rv i wr => ∃ (A3 B3 : Option Addr) (c3 d3 s r k : Nat) (z : Int), sv = .slice A3 (digs s).length c3 ∧ rv = .slice B3 (digs r).length d3 ∧ i = .int .i64 z ∧ z = (k : Int) - 1 ∧ k ≤ 48001 ∧ Hid (Sq x k s r) ∧
    Hid (Dg wr A3 c3 (digs s)) ∧ Hid (Dg wr B3 d3 (digs r)) ∧ Hid (Below w.heap.size w wr)) (fun _ _ i _ => (intOf i + 1).toNat)
  case atStart => exact ⟨none, A1, 0, c1, 0, x, k0 + 1, (k0 : Int), by rw [digs_zero]; rfl, rfl, rfl, by omega, by omega, Sq.start x _ HK.out, by rw [digs_zero]; exact Dg.nil_ _ _, L2.out.get (by simp), L2.out.1⟩
  case round =>
    obtain ⟨A3, B3, c3, d3, s, r, k, z, rfl, rfl, rfl, hz, hk, HS, D1, D2, HB⟩ := hrel
    have l1 := digs_len_mono _ _ HS.out.small.1
    have l2 := digs_len_mono _ _ HS.out.small.2
    rcases k with _ | k
    · obtain rfl : z = -1 := by omega
      obtain ⟨e1, e2⟩ := HS.out.done
      have E1 := Lib.hid e1
      have E2 := Lib.hid e2
      clear hz e1 e2
      go_wp2
      go_ret2
      rw [← E1.out]
      rw [← E1.out] at E2
      rw [← E2.out]
      exact ⟨A3, c3, B3, d3, rfl, D1.out, D2.out, HB.out⟩
    · obtain rfl : z = (k : Int) := by omega
      clear hz
      have L3 := Lib.hid (((live_start wr).add D1.out).add D2.out)
      go_wp2_with fail
      refine Calls.mono (rshl_l (xs := digs s) (x := s) (i := 1) (k := 1) L3.out (by simp) rfl (val_digs _) (by omega) rfl (by omega)) ?_
      rintro e w3 ⟨A4, c4, rfl, h1⟩
      have L4 := Lib.hid h1
      clear h1
      have len4 := digs_shl_len s 1
      go_wp2_with fail
      have L5 := Lib.hid (L4.out.new1 1 1 rfl (by omega))
      refine Calls.mono (rshl_l (xs := [1]) (x := 1) (i := (k : Int)) (k := k) L5.out (by simp) rfl (by simp [val]) (by simp) rfl (by omega)) ?_
      rw [Nat.one_mul]
      rintro e w5 ⟨A6, c6, rfl, h1⟩
      have L6 := Lib.hid h1
      clear h1
      have len6 := pow_digs_len k
      go_wp2_with fail
      refine Calls.mono (radd_l (xs := digs (s * 2 ^ 1)) (ys := digs (2 ^ k)) (x := s * 2 ^ 1) (y := 2 ^ k) L6.out (by simp) (by simp) rfl rfl (val_digs _) (val_digs _) (by omega) (by omega)) ?_
      rintro e w6 ⟨A7, c7, rfl, h1⟩
      have L7 := Lib.hid h1
      clear h1
      have len7 := digs_add_len (s * 2 ^ 1) (2 ^ k)
      have len8 := digs_shl_len (s * 2 ^ 1 + 2 ^ k) k
      have HPA := Lib.hid (Sq.yes (x := x) (k := k) (s := s) (r := r) HS.out)
      have HPB := Lib.hid (Sq.no (x := x) (k := k) (s := s) (r := r) HS.out)
      have hk9 : k / 32 ≤ 1500 := by omega
      generalize hT : s * 2 ^ 1 + 2 ^ k = T at *
      go_wp2_with fail
      refine Calls.mono (rshl_l (xs := digs T) (x := T) (i := (k : Int)) (k := k) L7.out (by simp) rfl (val_digs _) (by omega) rfl (by omega)) ?_
      rintro e w7 ⟨A8, c8, rfl, h1⟩
      have L8 := Lib.hid h1
      clear h1
      obtain ⟨q, hq⟩ : ∃ q, decide (T * 2 ^ k ≤ r) = q := ⟨_, rfl⟩
      have HQ := Lib.hid hq
      clear hq
      go_wp2_with fail
      refine Calls.mono (rsub_b (x := r) (y := T * 2 ^ k) L8.out (by simp) (by simp) (by omega) (by omega) HQ.out) ?_
      rintro e w8 ⟨A9, c9, rfl, h1, _⟩
      have L9 := Lib.hid h1
      clear h1
      rcases q with _ | _
      · go_wp2
        go_roundw
        case rel => exact ⟨A3, B3, c3, d3, s, r, k, (k : Int) - 1, rfl, rfl, rfl, rfl, by omega, HPB.out (of_decide_eq_false HQ.out), L9.out.get (by simp), L9.out.get (by simp), HB.out.trans (L9.out.1.mono HB.out.size)⟩
        case measure => simp [intOf]
      · go_wp2_with fail
        refine Calls.mono (radd_l (xs := digs s) (ys := digs (2 ^ k)) (x := s) (y := 2 ^ k) L9.out (by simp) (by simp) rfl rfl (val_digs _) (val_digs _) (by omega) (by omega)) ?_
        rintro e w9 ⟨A10, c10, rfl, h1⟩
        have L10 := Lib.hid h1
        clear h1
        go_wp2
        go_roundw
        case rel => exact ⟨A10, A9, c10, c9, s + 2 ^ k, r - T * 2 ^ k, k, (k : Int) - 1, rfl, rfl, rfl, rfl, by omega, HPA.out (of_decide_eq_true HQ.out), L10.out.get (by simp), L10.out.get (by simp), HB.out.trans (L10.out.1.mono HB.out.size)⟩
        case measure => simp [intOf]
section
variable {w0 w w' : World} {L : List (Option Addr × Nat × List Nat)} {A B : Option Addr} {c d n m : Nat} {xs ys : List Nat} {x y : Nat}
theorem rsqrt_l (hL : Live w0 w L) (h1 : (A, c, xs) ∈ L) (hn : n = xs.length) (hx : val xs = x) (b1 : xs.length ≤ 3000) :
    Calls Try.prog 18 #[.slice A n c] w fun e w' => ∃ A' c' B' d', e = .returned (.tuple #[.slice A' (digs (rt x)).length c', .slice B' (digs (x - rt x * rt x)).length d']) ∧ Live w0 w' ((B', d', digs (x - rt x * rt x)) :: (A', c', digs (rt x)) :: L) := by
  subst hn hx
  exact (rsqrt_any A c xs w (hL.get h1) b1).mono fun _ _ ⟨A', c', B', d', he, hd, hd', hb⟩ => ⟨A', c', B', d', he, ((hL.step hb).add hd).add hd'⟩
theorem rgcd_l (hL : Live w0 w L) (h1 : (A, c, xs) ∈ L) (h2 : (B, d, ys) ∈ L) (hn : n = xs.length) (hm : m = ys.length) (hx : val xs = x) (hy : val ys = y) (b1 : xs.length ≤ 100000) (b2 : ys.length ≤ 100000) :
    Calls Try.prog 16 #[.slice A n c, .slice B m d] w fun e w' => ∃ A' c', e = .returned (.slice A' (digs (Nat.gcd x y)).length c') ∧ Live w0 w' ((A', c', digs (Nat.gcd x y)) :: L) := by
  subst hn hm hx hy
  exact (rgcd_any A B c d xs ys w (hL.get h1) (hL.get h2) b1 b2).mono fun _ _ ⟨A', c', he, hd, hb⟩ => ⟨A', c', he, (hL.step hb).add hd⟩
end
end Go.Proofs.Ytceningojnfgpaa
