/-
  astrolabelaw01.NatSmalls: a small number is read as it was; its bits are those of its digits; sums and products of two of 32 bits are the machine's.
-/
import Derived.Test.YtjnbdbgggcfbjaaExam
namespace Go.Proofs.Ytjnbdbgggcfbjaa
open Go.RowKit
set_option maxHeartbeats 4000000 in
set_option maxRecDepth 100000 in
theorem smalls_any (n a b : Nat) (w : World) (hn : n < 18446744073709551616) (ha : a < 4294967296) (hb : b < 4294967296) :
    Calls Try.prog 10 #[.int .u64 n, .int .u32 a, .int .u32 b] w fun e w' => e = .returned (.bool true) ∧ Below w.heap.size w w' := by
  have L0 := Lib.hid (live_start w)
  have hpn : a * b ≤ 18446744065119617025 := Nat.le_trans (Nat.mul_le_mul (Nat.le_of_lt_succ ha) (Nat.le_of_lt_succ hb)) (by decide)
  have hp0 : 0 ≤ (a : Int) * (b : Int) := by rw [← Int.natCast_mul]; omega
  have hp1 : (a : Int) * (b : Int) ≤ 18446744065119617025 := by rw [← Int.natCast_mul]; omega
  have HP := Lib.hid hpn
  have d1 := digs_add_len a b
  have d2 := digs_mul_len a b
  have d3 := digs_small hn
  have d4 := digs_small (show a < 18446744073709551616 by omega)
  have d5 := digs_small (show b < 18446744073709551616 by omega)
  have HN := Lib.hid hn
  clear hpn
  go_enter Try.func10, Try.ntmps10
  go_wp2_with fail
  refine (examples_any w).mono ?_
  rintro e w1 ⟨rfl, hb1⟩
  have L1 := Lib.hid (L0.out.step hb1)
  clear hb1
  go_wp2_with fail
  refine Calls.mono (from_l (k := n) L1.out rfl HN.out) ?_
  rintro e w2 ⟨A2, c2, rfl, h1⟩
  have L2 := Lib.hid h1
  clear h1
  go_wp2_with fail
  refine Calls.mono (small_l (xs := digs n) (x := n) (q := (n : Int)) L2.out (by simp) rfl (val_digs _) (by omega) HN.out rfl) ?_
  rintro e w3 ⟨rfl, h1⟩
  have L3 := Lib.hid h1
  clear h1
  go_wp2_with fail
  have L4 := Lib.hid ((L3.out.new1 (a : Int) a rfl ha).new1 (b : Int) b rfl hb)
  refine Calls.mono (add_l (xs := [a]) (ys := [b]) (x := a) (y := b) L4.out (by simp) (by simp) rfl rfl (by simp [val]) (by simp [val]) (by simp) (by simp)) ?_
  rintro e w5 ⟨A5, c5, rfl, h1⟩
  have L5 := Lib.hid h1
  clear h1
  go_wp2_with fail
  refine Calls.mono (small_l (xs := digs (a + b)) (x := a + b) (q := (a : Int) + (b : Int)) L5.out (by simp) rfl (val_digs _) (by omega) (by omega) (by omega)) ?_
  rintro e w6 ⟨rfl, h1⟩
  have L6 := Lib.hid h1
  clear h1
  go_wp2_with fail
  have L7 := Lib.hid ((L6.out.new1 (a : Int) a rfl ha).new1 (b : Int) b rfl hb)
  refine Calls.mono (mul_l (xs := [a]) (ys := [b]) (x := a) (y := b) L7.out (by simp) (by simp) rfl rfl (by simp [val]) (by simp [val]) (by simp) (by simp)) ?_
  rintro e w8 ⟨A8, c8, rfl, h1⟩
  have L8 := Lib.hid h1
  clear h1
  go_wp2_with fail
  refine Calls.mono (small_l (xs := digs (a * b)) (x := a * b) (q := (a : Int) * (b : Int)) L8.out (by simp) rfl (val_digs _) (by omega) (by have := HP.out; omega) (Int.natCast_mul a b)) ?_
  rintro e w9 ⟨rfl, h1⟩
  have L9 := Lib.hid h1
  clear h1
  go_wp2_with fail
  have hbn : blen n ≤ 64 := by rw [blen_eq n HN.out]; exact Lib.bitLen_le n 64 (by omega) HN.out
  go_loop [14, 15] (fun bi kk => ∃ i k : Nat, bi = .int .i64 i ∧ kk = .int .u64 k ∧ k ≤ n ∧ Hid (i + blen k = blen n)) (fun _ kk => (intOf kk).toNat)
  case atStart => exact ⟨0, n, rfl, rfl, Nat.le_refl _, by simp [Hid]⟩
  case round =>
    obtain ⟨i, k, rfl, rfl, hk, HE⟩ := hrel
    have hi : i ≤ 64 := by have := HE.out; omega
    by_cases h0 : k = 0
    · subst h0
      have HI : Hid ((blen n : Int) = (i : Int)) := by have := HE.out; rw [blen_zero] at this; show (blen n : Int) = i; omega
      clear HE
      go_wp2_with fail
      refine Calls.mono (from_l (k := n) L9.out rfl HN.out) ?_
      rintro e w10 ⟨A10, c10, rfl, h1⟩
      have L10 := Lib.hid h1
      clear h1
      go_wp2_with fail
      refine Calls.mono (bits_l (xs := digs n) (x := n) (q := (i : Int)) L10.out (by simp) rfl (val_digs _) (by omega) HI.out) ?_
      rintro e w11 ⟨rfl, h1⟩
      have L11 := Lib.hid h1
      clear h1
      go_wp2
      go_ret
      exact ⟨rfl, L11.out.1⟩
    · have hkp : 0 < k := by omega
      have HB := Lib.hid (blen_pos h0)
      go_wp2_with fail
      go_round
      case rel => exact ⟨i + 1, k / 2, by go_num, by go_num, by omega, by have := HE.out; rw [HB.out] at this; show i + 1 + blen (k / 2) = blen n; omega⟩
      case measure => simp [intOf]; omega
end Go.Proofs.Ytjnbdbgggcfbjaa
