/-
  nat.Shl, Shr, Bit over what a law carries along.
-/
import Derived.Test.YtceningojnfgpaaLive
import Derived.Test.YtceningojnfgpaaShr
namespace Go.Proofs.Ytceningojnfgpaa
open Go.RowKit
section
variable {w0 w w' : World} {L : List (Option Addr × Nat × List Nat)} {A B : Option Addr} {c d n m : Nat} {xs ys : List Nat} {x y : Nat}
theorem shl_l {i : Int} {k : Nat} (hL : Live w0 w L) (h1 : (A, c, xs) ∈ L) (hn : n = xs.length) (hx : val xs = x) (b1 : xs.length ≤ 1048576) (hi : i = (k : Int)) (hk : k ≤ 100000) :
    Calls Try.prog 24 #[.slice A n c, .int .i64 i] w fun e w' => ∃ A' c', e = .returned (.tuple #[.slice A' (digs (x * 2 ^ k)).length c', .bool true]) ∧ Live w0 w' ((A', c', digs (x * 2 ^ k)) :: L) := by
  subst hn hx hi
  exact (shl_any A c xs k w (hL.get h1) b1 hk).mono fun e w' ⟨A', c', he, hd, hb⟩ => ⟨A', c', he, (hL.step hb).add hd⟩
theorem shr_l {i : Int} {k : Nat} (hL : Live w0 w L) (h1 : (A, c, xs) ∈ L) (hn : n = xs.length) (hx : val xs = x) (b1 : xs.length ≤ 1048576) (hi : i = (k : Int)) (hk : k ≤ 9223372036854775807) :
    Calls Try.prog 25 #[.slice A n c, .int .i64 i] w fun e w' => ∃ A' c', e = .returned (.slice A' (digs (x / 2 ^ k)).length c') ∧ Live w0 w' ((A', c', digs (x / 2 ^ k)) :: L) := by
  subst hn hx hi
  exact (shr_any A c xs k w (hL.get h1) b1 hk).mono fun e w' ⟨A', c', he, hd, hb⟩ => ⟨A', c', he, (hL.step hb).add hd⟩
end
theorem pow_digs_len (k : Nat) : (digs (2 ^ k)).length ≤ k / 32 + 1 := by
  apply digs_len_lt
  have e : (4294967296 : Nat) = 2 ^ 32 := rfl
  rw [e, ← Nat.pow_mul]
  exact Nat.pow_lt_pow_right (by omega) (by omega)
theorem digs_shl_len (x k : Nat) : (digs (x * 2 ^ k)).length ≤ (digs x).length + (k / 32 + 1) := by
  have h1 := digs_mul_len x (2 ^ k)
  have h2 := pow_digs_len k
  omega
theorem digs_shr_len (x k : Nat) : (digs (x / 2 ^ k)).length ≤ (digs x).length := digs_len_mono _ _ (Nat.div_le_self _ _)
theorem blen_shl {x : Nat} (k : Nat) (h : x ≠ 0) : blen (x * 2 ^ k) = blen x + k := by
  have hp : 0 < 2 ^ k := Nat.pow_pos (by omega)
  rw [blen_shift k _ (Nat.le_mul_of_pos_left _ (by omega)), Nat.mul_div_cancel _ hp, Nat.add_comm]
theorem blen_lt (x : Nat) : x < 2 ^ blen x := by
  induction x using Nat.strongRecOn with
  | ind x ih =>
    by_cases h : x = 0
    · subst h; rw [blen_zero]; omega
    · have := ih (x / 2) (by omega)
      rw [blen_pos h, Nat.add_comm, Nat.pow_succ]; omega
theorem bit_shl (x k i : Nat) : bitAt (x * 2 ^ k) ((i : Int) + (k : Int)) = bitAt x (i : Int) := by
  unfold bitAt
  rw [decide_eq_true (by omega), decide_eq_true (by omega), show ((i : Int) + (k : Int)).toNat = i + k by omega, Int.toNat_natCast, Nat.testBit_mul_two_pow]
  simp
theorem bit_past (x i : Nat) : bitAt x ((blen x : Int) + (i : Int)) = false := by
  unfold bitAt
  rw [show ((blen x : Int) + (i : Int)).toNat = blen x + i by omega, Nat.testBit_lt_two_pow (Nat.lt_of_lt_of_le (blen_lt x) (Nat.pow_le_pow_right (by omega) (by omega)))]
  simp
end Go.Proofs.Ytceningojnfgpaa
