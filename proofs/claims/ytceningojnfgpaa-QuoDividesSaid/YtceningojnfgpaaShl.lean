/-
  nat.Shl.
-/
import Derived.Test.YtceningojnfgpaaMul
namespace Go.Proofs.Ytceningojnfgpaa
open Go.RowKit
theorem two_pow_split (p : Nat) (h : p ≤ 32) : 2 ^ p * 2 ^ (32 - p) = 4294967296 := by rw [← Nat.pow_add, show p + (32 - p) = 32 by omega]
/-- One digit moved up by p bits: what stays below, and what is carried. -/
theorem shl_parts (x c p : Nat) (hx : x < 4294967296) (hc : c < 2 ^ p) (hp : p < 32) :
    (x * 2 ^ p % 4294967296 + c) + 4294967296 * (x / 2 ^ (32 - p)) = x * 2 ^ p + c ∧ x * 2 ^ p % 4294967296 + c < 4294967296 ∧ x / 2 ^ (32 - p) < 2 ^ p ∧ x * 2 ^ p % 4294967296 % 2 ^ p = 0 := by
  have hs := two_pow_split p (by omega)
  have hpp : 0 < 2 ^ p := Nat.pow_pos (by omega)
  have hqq : 0 < 2 ^ (32 - p) := Nat.pow_pos (by omega)
  generalize 2 ^ p = P at *
  generalize 2 ^ (32 - p) = Q at *
  have e1 : x * P % 4294967296 = x % Q * P := by rw [← hs, Nat.mul_comm P Q, Nat.mul_mod_mul_right]
  have e2 : Q * (x / Q) + x % Q = x := Nat.div_add_mod x Q
  have h3 : x % Q < Q := Nat.mod_lt _ hqq
  rw [e1, ← hs]
  refine ⟨?_, ?_, ?_, ?_⟩
  · have : x * P = P * Q * (x / Q) + x % Q * P := by
      conv => lhs; rw [← e2]
      rw [Nat.add_mul, Nat.mul_comm (Q * (x / Q)) P, ← Nat.mul_assoc]
    omega
  · have : x % Q * P + P ≤ P * Q := by
      calc x % Q * P + P = (x % Q + 1) * P := by rw [Nat.add_mul, Nat.one_mul]
        _ ≤ Q * P := Nat.mul_le_mul_right _ h3
        _ = P * Q := Nat.mul_comm _ _
    omega
  · rw [Nat.div_lt_iff_lt_mul hqq, hs]; exact hx
  · exact Nat.mul_mod_left _ _
theorem shl_or (x c p : Nat) (hx : x < 4294967296) (hc : c < 2 ^ p) (hp : p < 32) :
    bits BinOp.or IntKind.u32 (((x : Int) * 2 ^ p) % 4294967296) (c : Int) = ((x * 2 ^ p % 4294967296 + c : Nat) : Int) := by
  obtain ⟨_, h2, _, h4⟩ := shl_parts x c p hx hc hp
  have e : ((x : Int) * 2 ^ p) % 4294967296 = ((x * 2 ^ p % 4294967296 : Nat) : Int) := by
    rw [Int.natCast_emod, Int.natCast_mul, Int.natCast_pow]; rfl
  rw [e, u32_or_nat _ _ (Nat.mod_lt _ (by omega)) (by omega), nat_join p _ _ h4 hc]
theorem shl_carry (x p : Nat) : (x : Int) / 2 ^ (32 - p) = ((x / 2 ^ (32 - p) : Nat) : Int) := by
  rw [Int.natCast_ediv, Int.natCast_pow]; rfl
theorem shl_step {zs xs : List Nat} {k W p c t d : Nat} (hz : W + k < zs.length) (hk : k < xs.length) (h : val (zs.take (W + k)) + 4294967296 ^ (W + k) * c = 4294967296 ^ W * (val (xs.take k) * 2 ^ p))
    (hs : t + 4294967296 * d = (xs[k]?.getD 0) * 2 ^ p + c) : val ((zs.set (W + k) t).take (W + (k + 1))) + 4294967296 ^ (W + (k + 1)) * d = 4294967296 ^ W * (val (xs.take (k + 1)) * 2 ^ p) := by
  rw [← Nat.add_assoc, take_set hz, take_one hk, val_snoc, val_snoc, List.length_take, List.length_take, Nat.min_eq_left (by omega), Nat.min_eq_left (by omega), Nat.pow_succ, Nat.add_mul, Nat.mul_add, ← h]
  have e1 : 4294967296 ^ W * (4294967296 ^ k * (xs[k]?.getD 0) * 2 ^ p) = 4294967296 ^ (W + k) * (xs[k]?.getD 0 * 2 ^ p) := by
    rw [Nat.pow_add, Nat.mul_assoc, Nat.mul_assoc]
  have e2 : 4294967296 ^ (W + k) * t + 4294967296 ^ (W + k) * 4294967296 * d = 4294967296 ^ (W + k) * (xs[k]?.getD 0 * 2 ^ p) + 4294967296 ^ (W + k) * c := by
    rw [Nat.mul_assoc, ← Nat.mul_add, hs, Nat.mul_add]
  rw [e1]
  omega
theorem pow_parts (n : Nat) : 4294967296 ^ (n / 32) * 2 ^ (n % 32) = 2 ^ n := by
  have e : (4294967296 : Nat) = 2 ^ 32 := rfl
  rw [e, ← Nat.pow_mul, ← Nat.pow_add, show 32 * (n / 32) + n % 32 = n by omega]
set_option maxHeartbeats 1000000 in
theorem shl_no (A : Option Addr) (c : Nat) (xs : List Nat) (n : Int) (w : World) (hn : n < 0 ∨ 100000 < n) :
    Calls Try.prog 24 #[.slice A xs.length c, .int .i64 n] w fun e w' => e = .returned (.tuple #[.slice none 0 0, .bool false]) ∧ w = w' := by
  by_cases h : n < 0
  · have d0 : decide (n < 0) = true := by simp [h]
    go_enter Try.func24, Try.ntmps24
    go_wp2
    go_ret2
    exact ⟨rfl, rfl⟩
  · have d0 : decide (n < 0) = false := by simp; omega
    have d1 : decide (100000 < n) = true := by simp; omega
    clear h hn
    go_enter Try.func24, Try.ntmps24
    go_wp2
    go_ret2
    exact ⟨rfl, rfl⟩
set_option maxHeartbeats 2000000 in
set_option maxRecDepth 100000 in
theorem shl_any (A : Option Addr) (c : Nat) (xs : List Nat) (n : Nat) (w : World) (h : Dg w A c xs) (hl : xs.length ≤ 1048576) (hn : n ≤ 100000) :
    Calls Try.prog 24 #[.slice A xs.length c, .int .i64 n] w fun e w' => ∃ A' c', e = .returned (.tuple #[.slice A' (digs (val xs * 2 ^ n)).length c', .bool true]) ∧ Dg w' A' c' (digs (val xs * 2 ^ n)) ∧ Below w.heap.size w w' := by
  have l1 := digs_len_le h.2.1
  have H := Lib.hid h
  have HP := Lib.hid (pow_parts n)
  clear h
  have d0 : decide ((n : Int) < 0) = false := by simp
  have d1 : decide (100000 < (n : Int)) = false := by simp; omega
  go_enter Try.func24, Try.ntmps24
  go_wp2_with fail
  refine (short_any A c xs _ H.out (by omega)).mono ?_
  rintro e w' ⟨A1, c1, rfl, h1, rfl⟩
  have H1 := Lib.hid h1
  clear h1
  have V1 := Lib.hid (val_digs (val xs))
  have O1 := Lib.hid (ok_digs (val xs))
  generalize digs (val xs) = X at *
  have hmk := run_make_row' (P := Try.prog) 22 37 (.int .u32 0) 4 Try.underlying22 elem_info rfl .i64 .i64 (n / 32 + X.length + 1) (by omega) (by omega)
  rw [show ((n / 32 + X.length + 1 : Nat) : Int) = (n : Int) / 32 + (X.length : Int) + 1 by omega] at hmk
  go_wp2
  go_loopw [9, 31] (fun cy i wr => ∃ (k z : Nat) (zs : List Nat), k ≤ X.length ∧ i = .int .i64 k ∧ cy = .int .u32 z ∧ Hid (z < 2 ^ (n % 32)) ∧ z < 4294967296 ∧ Row wr w.heap.size zs ∧ Hid (zs.length = n / 32 + X.length + 1) ∧ ok32 zs ∧
    Hid (val (zs.take (n / 32 + k)) + 4294967296 ^ (n / 32 + k) * z = 4294967296 ^ (n / 32) * (val (X.take k) * 2 ^ (n % 32))) ∧ Below w.heap.size w wr) (fun _ i _ => X.length - (intOf i).toNat)
  case atStart => exact ⟨0, 0, List.replicate (n / 32 + X.length + 1) 0, Nat.zero_le _, rfl, rfl, Nat.pow_pos (by omega), by omega, Row.made _ _, by simp [Hid], ok_zeros _, by simp [Hid, val, List.take_replicate, val_zeros], (Below.refl _ _).alloc (Nat.le_refl _) _⟩
  case round =>
    obtain ⟨k, z, zs, hk, rfl, rfl, hz, hz', hrow, HL, hok, HE, hbel⟩ := hrel
    by_cases hlt : k < X.length
    · obtain ⟨b, off, hA, hb, hcx⟩ := H1.out.2.2 (by omega)
      have hx := (hbel.cell (p := ⟨b, off + k, none⟩) hb).trans (hcx k (by omega))
      have hX := getD_lt O1.out k
      have hcell := hrow.cell (i := n / 32 + k) (by have := HL.out; omega)
      have hfr := hrow.frozen (n / 32 + k)
      have hki : (n : Int) / 32 + (k : Int) < (n : Int) / 32 + (X.length : Int) + 1 := by omega
      have hk0 : (0 : Int) ≤ (n : Int) / 32 + (k : Int) := by omega
      generalize ex : X[k]?.getD 0 = x at *
      have HX := Lib.hid ex
      clear ex hcx
      subst hA
      go_wp2
      go_roundw
      case rel =>
        obtain ⟨g1, g2, g3, _⟩ := shl_parts x z (n % 32) hX hz (by omega)
        have e1 := shl_or x z (n % 32) hX hz (by omega)
        have e2 := shl_carry x (n % 32)
        have hpl : 2 ^ (n % 32) < 4294967296 := Nat.pow_lt_pow_right (by omega) (by omega : n % 32 < 32)
        exact ⟨k + 1, x / 2 ^ (32 - n % 32), zs.set (n / 32 + k) (x * 2 ^ (n % 32) % 4294967296 + z), hlt, by go_num, by rw [e2], g3, by omega, hrow.set_int e1, by simp only [List.length_set]; exact HL, ok_set hok g2 _,
          shl_step (by have := HL.out; omega) hlt HE.out (by rw [HX.out]; exact g1), hbel.setCell (by simp) _⟩
      case measure => simp [intOf]; omega
    · have hk' : k = X.length := by omega
      subst hk'
      have hcell := hrow.cell (i := n / 32 + X.length) (by have := HL.out; omega)
      have hfr := hrow.frozen (n / 32 + X.length)
      have hki : (n : Int) / 32 + (X.length : Int) < (n : Int) / 32 + (X.length : Int) + 1 := by omega
      have hk0 : (0 : Int) ≤ (n : Int) / 32 + (X.length : Int) := by omega
      clear hlt
      go_wp2_with fail
      have hrow' := hrow.set_ (n / 32 + X.length) z
      have hok' := ok_set hok (x := z) hz' (n / 32 + X.length)
      have HV := Lib.hid (show val (zs.set (n / 32 + X.length) z) = val xs * 2 ^ n from by
        rw [set_last HL.out]
        have := HE.out
        rw [List.take_of_length_le (Nat.le_refl X.length), V1.out] at this
        rw [this, ← HP.out, Nat.mul_left_comm])
      have HD := Lib.hid (hrow'.dg hok' (c := n / 32 + X.length + 1) (by have := HL.out; simp; omega))
      clear hrow' hok'
      refine (short_n HD.out (by simp only [List.length_set]; have := HL.out; omega) (by simp only [List.length_set]; exact HL.out.symm)).mono ?_
      rintro e w' ⟨A2, c2, rfl, h2, rfl⟩
      rw [HV.out] at h2
      rw [HV.out]
      have HR := Lib.hid h2
      clear h2
      go_wp2
      go_ret2
      exact ⟨A2, c2, rfl, HR.out, hbel.setCell (by simp) _⟩
end Go.Proofs.Ytceningojnfgpaa
