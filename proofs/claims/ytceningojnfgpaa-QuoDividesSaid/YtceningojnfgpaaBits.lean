/-
  math/bits.Add32, Sub32, Len32; nat.sign; slices.Clone at []uint32.
-/
import Derived.Test.YtceningojnfgpaaShort
import Derived.Lib.Strings
import Derived.Lib.Slices
import Derived.Lib.Small
import Derived.Lib.Walk
import Derived.Lib.BitFns
import Derived.Laws.BitsAllLaws
import Derived.Laws.BitsLemmas
namespace Go.Proofs.Ytceningojnfgpaa
open Go.RowKit
theorem ret2 {a b : Nat} {x y : Int} (h1 : x = a) (h2 : y = b) : Ending.returned (.tuple #[.int .u32 x, .int .u32 y]) = .returned (.tuple #[.int .u32 (a : Int), .int .u32 (b : Int)]) := by rw [h1, h2]
theorem ret_i {k : IntKind} {a b : Int} (h : a = b) : Ending.returned (.int k a) = .returned (.int k b) := by rw [h]
set_option maxHeartbeats 400000 in
theorem add32_any (x y c : Nat) (w : World) (hx : x < 4294967296) (hy : y < 4294967296) (hc : c ≤ 1) :
    Calls Try.prog 42 #[.int .u32 x, .int .u32 y, .int .u32 c] w fun e w' => (∃ s d : Nat, e = .returned (.tuple #[.int .u32 s, .int .u32 d]) ∧ s + 4294967296 * d = x + y + c ∧ s < 4294967296 ∧ d ≤ 1) ∧ w = w' := by
  go_enter Try.func42, Try.ntmps42
  go_wp2
  go_ret2
  exact ⟨⟨(x + y + c) % 4294967296, (x + y + c) / 4294967296, ret2 (by omega) (by omega), by omega, by omega, by omega⟩, rfl⟩
/-- The topmost bit. -/
theorem top_bit (n : Nat) (h : n < 4294967296) : n / 2147483648 = (n.testBit 31).toNat := by
  rw [Nat.testBit_eq_decide_div_mod_eq]
  by_cases hn : n / 2 ^ 31 % 2 = 1
  · simp [hn]; omega
  · simp [hn]; omega
theorem borrow_nat (x y c : Nat) (hx : x < 4294967296) (hy : y < 4294967296) (hc : c ≤ 1) :
    (((4294967295 ^^^ x) &&& y) ||| ((4294967295 ^^^ (x ^^^ y)) &&& ((x + 8589934592 - y - c) % 4294967296))) / 2147483648 = if x < y + c then 1 else 0 := by
  have l1 : (4294967295 ^^^ x) &&& y < 4294967296 := Nat.lt_of_le_of_lt Nat.and_le_right hy
  have l2 : (4294967295 ^^^ (x ^^^ y)) &&& ((x + 8589934592 - y - c) % 4294967296) < 4294967296 := Nat.lt_of_le_of_lt Nat.and_le_right (by omega)
  rw [top_bit _ (Nat.or_lt_two_pow (n := 32) l1 l2), Nat.testBit_or, Nat.testBit_and, Nat.testBit_and, Nat.testBit_xor, Nat.testBit_xor, Nat.testBit_xor]
  have hm : (4294967295 : Nat).testBit 31 = true := by decide
  have hxb := top_bit x hx
  have hyb := top_bit y hy
  have hdb := top_bit ((x + 8589934592 - y - c) % 4294967296) (by omega)
  rw [hm]
  generalize x.testBit 31 = bx at *
  generalize y.testBit 31 = bq at *
  generalize ((x + 8589934592 - y - c) % 4294967296).testBit 31 = bd at *
  cases bx <;> cases bq <;> cases bd <;> simp at hxb hyb hdb ⊢ <;> omega
set_option maxHeartbeats 400000 in
theorem sub32_any (x y c : Nat) (w : World) (hx : x < 4294967296) (hy : y < 4294967296) (hc : c ≤ 1) :
    Calls Try.prog 46 #[.int .u32 x, .int .u32 y, .int .u32 c] w fun e w' => (∃ s d : Nat, e = .returned (.tuple #[.int .u32 s, .int .u32 d]) ∧ s + y + c = x + 4294967296 * d ∧ s < 4294967296 ∧ d ≤ 1) ∧ w = w' := by
  have hsg : IntKind.u32.signed = false := rfl
  go_enter Try.func46, Try.ntmps46
  go_wp2
  go_ret2
  have e0 : ((x : Int) - y - c) % 4294967296 = (((x + 8589934592 - y - c) % 4294967296 : Nat) : Int) := by omega
  have e1 : (((x : Int) - y) % 4294967296 - c) % 4294967296 = (((x + 8589934592 - y - c) % 4294967296 : Nat) : Int) := by omega
  have e2 : bits BinOp.or IntKind.u32 (bits BinOp.and IntKind.u32 (bits BinOp.xor IntKind.u32 4294967295 ↑x) ↑y) (bits BinOp.and IntKind.u32 (bits BinOp.xor IntKind.u32 4294967295 (bits BinOp.xor IntKind.u32 ↑x ↑y)) (((x : Int) - y - c) % 4294967296)) / 2147483648 = ((if x < y + c then 1 else 0 : Nat) : Int) := by
    have k1 : 4294967295 ^^^ x < 4294967296 := Nat.xor_lt_two_pow (n := 32) (by decide) hx
    have k2 : x ^^^ y < 4294967296 := Nat.xor_lt_two_pow (n := 32) hx hy
    have k3 : 4294967295 ^^^ (x ^^^ y) < 4294967296 := Nat.xor_lt_two_pow (n := 32) (by decide) k2
    rw [show (4294967295 : Int) = ((4294967295 : Nat) : Int) from rfl, e0, u32_xor_nat _ _ (by decide) hx, u32_xor_nat _ _ hx hy, u32_xor_nat _ _ (by decide) k2, u32_and_nat _ _ k1 hy, u32_and_nat _ _ k3 (by omega), u32_or_nat _ _ (Nat.lt_of_le_of_lt Nat.and_le_right hy) (Nat.lt_of_le_of_lt Nat.and_le_right (by omega)), ← borrow_nat x y c hx hy hc]
    simp
  refine ⟨⟨(x + 8589934592 - y - c) % 4294967296, if x < y + c then 1 else 0, ret2 e1 e2, ?_, by omega, by split <;> omega⟩, rfl⟩
  split <;> omega
theorem blen_eq (x : Nat) (h : x < 18446744073709551616) : blen x = Lib.bitLen x := by
  induction x using Nat.strongRecOn with
  | ind x ih =>
    by_cases h0 : x = 0
    · subst h0; rw [blen_zero]; rfl
    · rw [blen_pos h0, Lib.bitLen_half x h0 h, ih (x / 2) (by omega) (by omega)]
theorem len8_fin {x : Nat} (b : Int) (n k : Nat) (h0 : 0 ≤ b) (h1 : b ≤ 255) (hn : b = (n : Int)) (hs : Lib.bitLen x = k + Lib.bitLen n) (hk : k ≤ 1000) :
    wrap64 ((k : Int) + wrap64 (Lib.len8 b)) = (Lib.bitLen x : Int) := by
  have e : b.toNat = n := by omega
  have l := Lib.bitLen_le8' b h0 h1
  rw [Lib.len8_of b h0 h1, e] at *
  have w1 : wrap64 (Lib.bitLen n : Int) = (Lib.bitLen n : Int) := IntWalk.wrap64_in _ ⟨by omega, by omega⟩
  rw [w1, IntWalk.wrap64_in _ ⟨by omega, by omega⟩]
  omega
set_option maxHeartbeats 1000000 in
set_option maxRecDepth 100000 in
theorem len32_any (x : Nat) (w : World) (hx : x < 4294967296) :
    Calls Try.prog 41 #[.int .u32 x] w fun e w' => e = .returned (.int .i64 (blen x)) ∧ w = w' := by
  rw [blen_eq x (by omega)]
  by_cases h1 : 65536 ≤ x
  · have a1 : 65536 ≤ (x : Int) := by omega
    by_cases h2 : 16777216 ≤ x
    · have a2 : 256 ≤ (x : Int) / 65536 := by omega
      have a3 : 0 ≤ (x : Int) / 65536 / 256 := by omega
      have a4 : (x : Int) / 65536 / 256 ≤ 255 := by omega
      go_enter Try.func41, Try.ntmps41
      go_wp2
      go_ret
      exact ⟨ret_i (len8_fin ((x : Int) / 65536 / 256) (x / 16777216) 24 a3 a4 (by omega) (Lib.bitLen_shift24 x h2 (by omega)) (by omega)), rfl⟩
    · have a2 : (x : Int) / 65536 < 256 := by omega
      have a3 : 0 ≤ (x : Int) / 65536 := by omega
      have a4 : (x : Int) / 65536 ≤ 255 := by omega
      go_enter Try.func41, Try.ntmps41
      go_wp2
      go_ret
      exact ⟨ret_i (len8_fin ((x : Int) / 65536) (x / 65536) 16 a3 a4 (by omega) (Lib.bitLen_shift16 x h1 (by omega)) (by omega)), rfl⟩
  · by_cases h2 : 256 ≤ x
    · have HF := Lib.hid (len8_fin ((x : Int) / 256) (x / 256) 8 (by omega) (by omega) (by omega) (Lib.bitLen_shift8 x h2 (by omega)) (by omega))
      have a1 : (x : Int) < 65536 := by omega
      have a2 : 256 ≤ (x : Int) := by omega
      have a3 : 0 ≤ (x : Int) / 256 := by omega
      have a4 : (x : Int) / 256 ≤ 255 := by omega
      have a5 : 0 ≤ (x : Int) := by omega
      clear h1 h2 hx
      generalize (x : Int) = X at *
      go_enter Try.func41, Try.ntmps41
      go_wp2
      go_ret
      exact ⟨ret_i HF.out, rfl⟩
    · have hf := len8_fin (x := x) (x : Int) x 0 (by omega) (by omega) rfl (by omega) (by omega)
      simp only [Int.natCast_zero, Int.zero_add] at hf
      have HF := Lib.hid hf
      have a1 : (x : Int) < 65536 := by omega
      have a2 : (x : Int) < 256 := by omega
      have a3 : 0 ≤ (x : Int) := by omega
      have a4 : (x : Int) ≤ 255 := by omega
      clear h1 h2 hx hf
      generalize (x : Int) = X at *
      go_enter Try.func41, Try.ntmps41
      go_wp2
      go_ret
      exact ⟨ret_i HF.out, rfl⟩
theorem sign_yes (w : World) : Calls Try.prog 45 #[.bool true] w fun e w' => e = .returned (.int .i64 1) ∧ w = w' := by
  go_enter Try.func45, Try.ntmps45
  go_wp2
  go_ret
  exact ⟨rfl, rfl⟩
theorem sign_no (w : World) : Calls Try.prog 45 #[.bool false] w fun e w' => e = .returned (.int .i64 (-1)) ∧ w = w' := by
  go_enter Try.func45, Try.ntmps45
  go_wp2
  go_ret
  exact ⟨rfl, rfl⟩
end Go.Proofs.Ytceningojnfgpaa
