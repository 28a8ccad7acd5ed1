/-
  A burst changes the sum. Plain; no program in sight.
-/
import Derived.Test.YtcomfcmimnjhoaaPa
namespace Go.Proofs.Ytcomfcmimnjhoaa
theorem xor_odd (a b : Nat) : (a ^^^ b) % 2 = (a % 2 + b % 2) % 2 := by
  have h := Nat.testBit_xor a b 0
  simp only [Nat.testBit_zero] at h
  rcases Nat.mod_two_eq_zero_or_one a with ha | ha <;> rcases Nat.mod_two_eq_zero_or_one b with hb | hb <;> rcases Nat.mod_two_eq_zero_or_one (a ^^^ b) with hc | hc <;> rw [ha, hb, hc] at h <;> rw [ha, hb, hc] <;> first | rfl | (exact absurd h (by decide))
theorem xor_half (a b : Nat) : (a ^^^ b) / 2 = a / 2 ^^^ b / 2 := Nat.xor_div_two
theorem crc1_xor (a b : Nat) : crc1 (a ^^^ b) = crc1 a ^^^ crc1 b := by
  unfold crc1
  rw [xor_half, xor_odd]
  have hA : ∀ x y p : Nat, (x ^^^ y) ^^^ p = (x ^^^ p) ^^^ y := fun x y p => by rw [Nat.xor_assoc, Nat.xor_comm y p, ← Nat.xor_assoc]
  rcases Nat.mod_two_eq_zero_or_one a with ha | ha <;> rcases Nat.mod_two_eq_zero_or_one b with hb | hb
  · simp [ha, hb]
  · simp [ha, hb, Nat.xor_assoc]
  · simp [ha, hb]
    exact hA _ _ _
  · simp [ha, hb]
    rw [Nat.xor_assoc, ← Nat.xor_assoc 3988292384, Nat.xor_comm 3988292384 (b / 2), Nat.xor_assoc, Nat.xor_self, Nat.xor_zero]
theorem crcN_xor (n a b : Nat) : crcN n (a ^^^ b) = crcN n a ^^^ crcN n b := by
  induction n with
  | zero => rfl
  | succ n ih => show crc1 (crcN n (a ^^^ b)) = _; rw [ih, crc1_xor]; rfl
theorem crcN_add (n m v : Nat) : crcN (n + m) v = crcN n (crcN m v) := by
  induction n with
  | zero => rw [Nat.zero_add]; rfl
  | succ n ih => rw [Nat.add_right_comm]; show crc1 (crcN (n + m) v) = crc1 (crcN n (crcN m v)); rw [ih]
theorem crc1_zero : crc1 0 = 0 := rfl
theorem crcN_zero (n : Nat) : crcN n 0 = 0 := by
  induction n with
  | zero => rfl
  | succ n ih => show crc1 (crcN n 0) = 0; rw [ih]; rfl
theorem crcN_pow (k m : Nat) : crcN k (m * 2 ^ k) = m := by
  induction k generalizing m with
  | zero => simp [crcN]
  | succ k ih =>
    show crc1 (crcN k (m * 2 ^ (k + 1))) = m
    rw [show m * 2 ^ (k + 1) = (m * 2) * 2 ^ k by rw [Nat.pow_succ, Nat.mul_assoc, Nat.mul_comm 2], ih]
    unfold crc1
    rw [if_neg (by omega)]
    omega
theorem crc1_ne {v : Nat} (h : v < 4294967296) (h0 : v ≠ 0) : crc1 v ≠ 0 := by
  unfold crc1
  split
  · intro he
    have e1 : v / 2 = 3988292384 := by
      have := congrArg (· ^^^ 3988292384) he
      simpa [Nat.xor_assoc] using this
    omega
  · omega
theorem crcN_ne {v : Nat} (h : v < 4294967296) (h0 : v ≠ 0) (n : Nat) : crcN n v ≠ 0 := by
  induction n with
  | zero => exact h0
  | succ n ih => exact crc1_ne (crcN_lt h n) ih
/-- Some bytes as a number, the least one first. -/
def num : List UInt8 → Nat
  | [] => 0
  | b :: r => 256 * num r + b.toNat
theorem pack_xor {a c n m : Nat} (ha : a < 256) (hc : c < 256) : (256 * n + a) ^^^ (256 * m + c) = 256 * (n ^^^ m) + (a ^^^ c) := by
  have hx : a ^^^ c < 2 ^ 8 := Nat.xor_lt_two_pow (n := 8) ha hc
  apply Nat.eq_of_testBit_eq
  intro i
  have e1 := Nat.testBit_two_pow_mul_add n (i := 8) ha i
  have e2 := Nat.testBit_two_pow_mul_add m (i := 8) hc i
  have e3 := Nat.testBit_two_pow_mul_add (n ^^^ m) (i := 8) hx i
  rw [Nat.testBit_xor, show (256 : Nat) = 2 ^ 8 from rfl, e1, e2, e3]
  split <;> rw [Nat.testBit_xor]
theorem crcF_num (l : List UInt8) (v : Nat) : l.foldl (fun v b => crcB v b.toNat) v = crcN (8 * l.length) (v ^^^ num l) := by
  induction l generalizing v with
  | nil => simp [num, crcN]
  | cons b r ih =>
    rw [List.foldl_cons, ih]
    unfold crcB
    rw [List.length_cons, Nat.mul_add, Nat.mul_one, crcN_add]
    congr 1
    have e : num (b :: r) = b.toNat ^^^ (num r * 2 ^ 8) := by
      show 256 * num r + b.toNat = _
      have := pack_xor (a := 0) (c := b.toNat) (n := num r) (m := 0) (by omega) b.toNat_lt
      simp at this
      rw [Nat.mul_comm (num r)]
      rw [← this, Nat.xor_comm]
    rw [e, ← Nat.xor_assoc, crcN_xor 8 (v ^^^ b.toNat), crcN_pow]
theorem crcL_num (l : List UInt8) : crcL l = crcN (8 * l.length) (4294967295 ^^^ num l) := crcF_num l _
/-- TWO LISTS OF A LENGTH THAT DIFFER BY A BURST HAVE OTHER SUMS. -/
theorem burst_ne {l l' : List UInt8} {m at_ : Nat} (hl : l.length = l'.length) (hat : at_ ≤ 8 * l.length) (hm : m < 4294967296) (h0 : m ≠ 0) (hn : num l' = num l ^^^ m * 2 ^ at_) : sumL l ≠ sumL l' := by
  intro h
  have h1 : crcL l = crcL l' := by
    unfold sumL at h
    have := congrArg (· ^^^ 4294967295) h
    simpa [Nat.xor_assoc] using this
  rw [crcL_num, crcL_num, ← hl, hn, ← Nat.xor_assoc, crcN_xor _ (4294967295 ^^^ num l)] at h1
  have h2 : crcN (8 * l.length) (m * 2 ^ at_) = 0 := by
    have := congrArg (crcN (8 * l.length) (4294967295 ^^^ num l) ^^^ ·) h1
    simp only [Nat.xor_self, ← Nat.xor_assoc, Nat.zero_xor] at this
    exact this.symm
  rw [show 8 * l.length = (8 * l.length - at_) + at_ by omega, crcN_add, crcN_pow] at h2
  exact crcN_ne hm h0 _ h2
theorem b4_inj {x y : Nat} (hx : x < 4294967296) (hy : y < 4294967296) (h : b4 x = b4 y) : x = y := by
  unfold b4 at h
  simp only [List.cons.injEq, and_true] at h
  obtain ⟨h0, h1, h2, h3⟩ := h
  have g0 := congrArg UInt8.toNat h0
  have g1 := congrArg UInt8.toNat h1
  have g2 := congrArg UInt8.toNat h2
  have g3 := congrArg UInt8.toNat h3
  simp only [UInt8.toNat_ofNat'] at g0 g1 g2 g3
  omega
theorem sumT_ne {l l' : List UInt8} (h : sumL l ≠ sumL l') : sumT l ≠ sumT l' := fun e => h (b4_inj (sumL_lt l) (sumL_lt l') e)
/-- A bit turned. -/
def flip (l : List UInt8) (j : Nat) : List UInt8 := l.set (j / 8) (l[j / 8]?.getD 0 ^^^ UInt8.ofNat (2 ^ (j % 8)))
theorem flip_len (l : List UInt8) (j : Nat) : (flip l j).length = l.length := by unfold flip; simp
theorem bit_lt (j : Nat) : 2 ^ (j % 8) < 256 := Nat.pow_lt_pow_right (n := 8) (by omega) (by omega)
theorem num_flip (l : List UInt8) (j : Nat) (h : j < 8 * l.length) : num (flip l j) = num l ^^^ 2 ^ j := by
  induction l generalizing j with
  | nil => simp at h
  | cons b r ih =>
    by_cases hj : j < 8
    · have e0 : j / 8 = 0 := by omega
      have e1 : j % 8 = j := by omega
      have hb := bit_lt j
      rw [e1] at hb
      unfold flip
      rw [e0, e1]
      show 256 * num r + (b ^^^ UInt8.ofNat (2 ^ j)).toNat = (256 * num r + b.toNat) ^^^ 2 ^ j
      have := pack_xor (a := b.toNat) (c := 2 ^ j) (n := num r) (m := 0) b.toNat_lt hb
      simp at this
      rw [this, UInt8.toNat_xor, UInt8.toNat_ofNat', Nat.mod_eq_of_lt hb]
    · have e0 : j / 8 = (j - 8) / 8 + 1 := by omega
      have e1 : j % 8 = (j - 8) % 8 := by omega
      have hf : flip (b :: r) j = b :: flip r (j - 8) := by
        unfold flip
        rw [e0, e1]
        simp
      rw [hf]
      show 256 * num (flip r (j - 8)) + b.toNat = (256 * num r + b.toNat) ^^^ 2 ^ j
      rw [ih (j - 8) (by simp at h; omega)]
      have := pack_xor (a := b.toNat) (c := 0) (n := num r) (m := 2 ^ (j - 8)) b.toNat_lt (by omega)
      have e2 : 256 * 2 ^ (j - 8) = 2 ^ j := by
        rw [show (256 : Nat) = 2 ^ 8 from rfl, ← Nat.pow_add]
        congr 1
        omega
      rw [Nat.add_zero, e2, Nat.xor_zero] at this
      exact this.symm
theorem flip_take (l : List UInt8) (j n : Nat) (h : j < 8 * n) : (flip l j).take n = flip (l.take n) j := by
  unfold flip
  rw [List.take_set, List.getElem?_take, if_pos (by omega)]
theorem flip_drop (l : List UInt8) (j n : Nat) (h : j < 8 * n) : (flip l j).drop n = l.drop n := by
  unfold flip
  rw [List.drop_set, if_pos (by omega)]
theorem flip_take' (l : List UInt8) (j n : Nat) (h : 8 * n ≤ j) : (flip l j).take n = l.take n := by
  unfold flip
  rw [List.take_set_of_le (by omega)]
theorem flip_drop' (l : List UInt8) (j n : Nat) (h : 8 * n ≤ j) : (flip l j).drop n = flip (l.drop n) (j - 8 * n) := by
  unfold flip
  rw [List.drop_set, if_neg (by omega), List.getElem?_drop, show n + (j - 8 * n) / 8 = j / 8 by omega, show (j - 8 * n) % 8 = j % 8 by omega, show (j - 8 * n) / 8 = j / 8 - n by omega]
theorem num_ne {l l' : List UInt8} (h : num l ≠ num l') : l ≠ l' := fun e => h (by rw [e])
/-- What a burst leaves is a page with a wrong sum: within the body .. -/
theorem bad_body {s s' : List UInt8} {m at_ : Nat} (hs : s.length = 128) (hq : sumT (s.take 124) = s.drop 124) (hl : s'.length = 128) (hat : at_ < 992) (hm : m < 4294967296) (h0 : m ≠ 0)
    (hd : s'.drop 124 = s.drop 124) (hn : num (s'.take 124) = num (s.take 124) ^^^ m * 2 ^ at_) : sumT (s'.take 124) ≠ s'.drop 124 := by
  rw [hd, ← hq]
  refine (sumT_ne (burst_ne (m := m) (at_ := at_) (by simp; omega) (by simp; omega) hm h0 hn)).symm
/-- .. and in the sum. -/
theorem bad_sum {s : List UInt8} {j : Nat} (hs : s.length = 128) (hq : sumT (s.take 124) = s.drop 124) (h1 : 992 ≤ j) (h2 : j < 1024) : sumT ((flip s j).take 124) ≠ (flip s j).drop 124 := by
  rw [flip_take' _ _ _ (by omega), flip_drop' _ _ _ (by omega), hq]
  refine num_ne ?_
  rw [num_flip _ _ (by simp; omega)]
  intro h
  have := congrArg (num (s.drop 124) ^^^ ·) h
  simp only [← Nat.xor_assoc, Nat.xor_self, Nat.zero_xor] at this
  have : 0 < 2 ^ (j - 8 * 124) := Nat.pow_pos (by omega)
  omega
/-- One step of the burst. -/
theorem step_num {a m i at_ : Nat} (x : Nat) (hm : m < 2 ^ i) (h : x = a ^^^ m * 2 ^ at_) : x ^^^ 2 ^ (at_ + i) = a ^^^ (m + 2 ^ i) * 2 ^ at_ ∧ m + 2 ^ i < 2 ^ (i + 1) := by
  refine ⟨?_, by rw [Nat.pow_succ]; omega⟩
  rw [h, Nat.xor_assoc]
  congr 1
  have e : m ^^^ 2 ^ i = m + 2 ^ i := by
    apply Nat.eq_of_testBit_eq
    intro j
    have e1 := Nat.testBit_two_pow_mul_add 1 (i := i) hm j
    rw [Nat.mul_one, Nat.add_comm] at e1
    rw [Nat.testBit_xor, e1, Nat.testBit_two_pow]
    split
    · rename_i hj
      have : decide (i = j) = false := by simp; omega
      rw [this, Bool.xor_false]
    · rename_i hj
      have hz : m.testBit j = false := Nat.testBit_lt_two_pow (Nat.lt_of_lt_of_le hm (Nat.pow_le_pow_right (by omega) (by omega)))
      rw [hz, Bool.false_xor]
      by_cases hij : i = j
      · subst hij; simp
      · have h1 : decide (i = j) = false := by simp; exact hij
        rw [h1]
        have : j - i ≠ 0 := by omega
        obtain ⟨q, hq⟩ : ∃ q, j - i = q + 1 := ⟨j - i - 1, by omega⟩
        rw [hq, Nat.testBit_succ]
        simp
  rw [Nat.pow_add, Nat.mul_comm (2 ^ at_), ← e]
  have := Nat.shiftLeft_xor_distrib (a := m) (b := 2 ^ i) (i := at_)
  simp only [Nat.shiftLeft_eq] at this
  exact this.symm
end Go.Proofs.Ytcomfcmimnjhoaa
