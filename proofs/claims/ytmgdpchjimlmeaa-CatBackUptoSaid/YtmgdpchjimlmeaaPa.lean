/-
  The sum of a page's bytes (CRC-32), plain. No program in sight.
-/
namespace Go.Proofs.Ytmgdpchjimlmeaa
/-- One bit. -/
def crc1 (v : Nat) : Nat := if v % 2 = 1 then v / 2 ^^^ 3988292384 else v / 2
def crcN : Nat → Nat → Nat
  | 0, v => v
  | n + 1, v => crc1 (crcN n v)
/-- One byte. -/
def crcB (v b : Nat) : Nat := crcN 8 (v ^^^ b)
def crcL (l : List UInt8) : Nat := l.foldl (fun v b => crcB v b.toNat) 4294967295
def sumL (l : List UInt8) : Nat := crcL l ^^^ 4294967295
theorem crc1_lt {v : Nat} (h : v < 4294967296) : crc1 v < 4294967296 := by
  unfold crc1
  split
  · exact Nat.xor_lt_two_pow (n := 32) (by omega) (by decide)
  · omega
theorem crcN_lt {v : Nat} (h : v < 4294967296) (n : Nat) : crcN n v < 4294967296 := by
  induction n with
  | zero => exact h
  | succ n ih => exact crc1_lt ih
theorem xor_byte_lt {v : Nat} (h : v < 4294967296) (b : UInt8) : v ^^^ b.toNat < 4294967296 :=
  Nat.xor_lt_two_pow (n := 32) h (by have := b.toNat_lt; omega)
theorem crcL_lt (l : List UInt8) : crcL l < 4294967296 := by
  unfold crcL
  have key : ∀ (l : List UInt8) (v : Nat), v < 4294967296 → l.foldl (fun v b => crcB v b.toNat) v < 4294967296 := by
    intro l
    induction l with
    | nil => intro v h; exact h
    | cons b r ih => intro v h; exact ih _ (crcN_lt (xor_byte_lt h b) 8)
  exact key l _ (by omega)
theorem sumL_lt (l : List UInt8) : sumL l < 4294967296 := Nat.xor_lt_two_pow (n := 32) (crcL_lt l) (by decide)
theorem crcL_snoc (l : List UInt8) (b : UInt8) : crcL (l ++ [b]) = crcN 8 (crcL l ^^^ b.toNat) := by
  unfold crcL
  rw [List.foldl_append]
  rfl
theorem take_snoc8 {l : List UInt8} {k : Nat} (h : k < l.length) : l.take (k + 1) = l.take k ++ [l[k]] := by
  rw [List.take_succ_eq_append_getElem h]
/-- A number's four bytes, the least first. -/
def b4 (x : Nat) : List UInt8 := [UInt8.ofNat x, UInt8.ofNat (x / 256), UInt8.ofNat (x / 65536), UInt8.ofNat (x / 16777216)]
def sumT (l : List UInt8) : List UInt8 := b4 (sumL l)
theorem sumT_len (l : List UInt8) : (sumT l).length = 4 := rfl
/-- A page's bytes but its sum. -/
def bodyL (k : Nat) (t : List UInt8) : List UInt8 := [65, 83, UInt8.ofNat k, UInt8.ofNat t.length] ++ t ++ List.replicate (120 - t.length) 0
def sealL (k : Nat) (t : List UInt8) : List UInt8 := bodyL k t ++ sumT (bodyL k t)
theorem body_len {k : Nat} {t : List UInt8} (h : t.length ≤ 120) : (bodyL k t).length = 124 := by
  unfold bodyL; simp; omega
theorem seal_len {k : Nat} {t : List UInt8} (h : t.length ≤ 120) : (sealL k t).length = 128 := by
  unfold sealL; rw [List.length_append, body_len h, sumT_len]
theorem seal_take {k : Nat} {t : List UInt8} (h : t.length ≤ 120) : (sealL k t).take 124 = bodyL k t := by
  unfold sealL; rw [← body_len (k := k) h, List.take_left]
theorem seal_drop {k : Nat} {t : List UInt8} (h : t.length ≤ 120) : (sealL k t).drop 124 = sumT (bodyL k t) := by
  unfold sealL; rw [← body_len (k := k) h, List.drop_left]
/-- May it be sealed? -/
def sealOk (k : Int) (n : Nat) : Bool := decide (1 ≤ k) && decide (k ≤ 9) && decide (n ≤ 120)
/-- What a page's bytes are: the kind, the text, the error (0: none). -/
def at8 (b : List UInt8) (i : Nat) : Nat := (b[i]?.getD 0).toNat
def openT (b : List UInt8) : List UInt8 := ((b.take 124).drop 4).take (at8 b 3)
def openOk (b : List UInt8) : Bool := decide (1 ≤ at8 b 2) && decide (at8 b 2 ≤ 9) && (sealL (at8 b 2) (openT b) == b)
def openE (b : List UInt8) : Nat := if b.length ≠ 128 then 2 else if sumT (b.take 124) ≠ b.drop 124 then 10 else if openOk b then 0 else 2
def openK (b : List UInt8) : Nat := if openE b = 0 then at8 b 2 else 0
def openS (b : List UInt8) : List UInt8 := if openE b = 0 then openT b else []
theorem openT_len (b : List UInt8) : (openT b).length ≤ 120 := by unfold openT; simp; omega
theorem open_seal {k : Nat} {t : List UInt8} (h1 : 1 ≤ k) (h9 : k ≤ 9) (ht : t.length ≤ 120) : openE (sealL k t) = 0 ∧ openK (sealL k t) = k ∧ openS (sealL k t) = t := by
  have e2 : at8 (sealL k t) 2 = k := by
    unfold at8 sealL bodyL
    simp [UInt8.toNat_ofNat']
    omega
  have e3 : at8 (sealL k t) 3 = t.length := by
    unfold at8 sealL bodyL
    simp [UInt8.toNat_ofNat']
    omega
  have e4 : openT (sealL k t) = t := by
    unfold openT
    rw [e3, seal_take ht]
    unfold bodyL
    simp
  have ok : openOk (sealL k t) = true := by
    unfold openOk
    rw [e2, e4]
    simp [h1, h9]
  have e0 : openE (sealL k t) = 0 := by
    unfold openE
    rw [seal_len ht, seal_take ht, seal_drop ht, ok]
    simp
  exact ⟨e0, by unfold openK; rw [if_pos e0, e2], by unfold openS; rw [if_pos e0, e4]⟩
theorem seal_open {b : List UInt8} (h : openE b = 0) : 1 ≤ openK b ∧ openK b ≤ 9 ∧ (openS b).length ≤ 120 ∧ sealL (openK b) (openS b) = b := by
  have ok : openOk b = true := by
    unfold openE at h
    split at h
    · omega
    · split at h
      · omega
      · split at h
        · assumption
        · omega
  have ek : openK b = at8 b 2 := by unfold openK; rw [if_pos h]
  have es : openS b = openT b := by unfold openS; rw [if_pos h]
  unfold openOk at ok
  simp only [Bool.and_eq_true, decide_eq_true_eq, beq_iff_eq] at ok
  rw [ek, es]
  exact ⟨ok.1.1, ok.1.2, openT_len b, ok.2⟩
end Go.Proofs.Ytmgdpchjimlmeaa
