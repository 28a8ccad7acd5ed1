/-
  page.Sum, and the document's Sum.
-/
import Derived.Test.YtmgdpchjimlmeaaPa
import Derived.Test.YtmgdpchjimlmeaaProg
import Derived.WalkKit
import Derived.WalkSpells
import Derived.WalkLawsBesides
import Derived.Outline
import Derived.Lib.Hide
import Derived.Lib.Strings
import Derived.Laws.BitsAllLaws
import Derived.Laws.BitsLemmas
import Derived.IntWalk
namespace Go.Proofs.Ytmgdpchjimlmeaa
open Go.RowKit
theorem str_size (l : List UInt8) : (⟨l.toArray⟩ : ByteArray).size = l.length := by simp [ByteArray.size]
theorem ret_i {k : IntKind} {a b : Int} (h : a = b) : Ending.returned (.int k a) = .returned (.int k b) := by rw [h]
theorem crc1_odd {v : Nat} (h : v < 4294967296) (ho : v % 2 = 1) : bits .xor .u32 ((v : Int) / 2) 3988292384 = ((crc1 v : Nat) : Int) := by
  have e : ((v : Int) / 2) = ((v / 2 : Nat) : Int) := by omega
  rw [e, show (3988292384 : Int) = ((3988292384 : Nat) : Int) from rfl, u32_xor_nat _ _ (by omega) (by decide)]
  unfold crc1
  rw [if_pos ho]
theorem crc1_even {v : Nat} (ho : ¬ v % 2 = 1) : ((v : Int) / 2) = ((crc1 v : Nat) : Int) := by
  unfold crc1
  rw [if_neg ho]
  omega
theorem xor_not {v : Nat} (h : v < 4294967296) : bits .xor .u32 (v : Int) 4294967295 = ((v ^^^ 4294967295 : Nat) : Int) := by
  rw [show (4294967295 : Int) = ((4294967295 : Nat) : Int) from rfl, u32_xor_nat _ _ h (by decide)]
theorem byte_at {l : List UInt8} {k : Nat} (_h : k < l.length) (h' : k < (⟨l.toArray⟩ : ByteArray).size) : (((⟨l.toArray⟩ : ByteArray)[k]'h').toNat : Int) % 4294967296 = (l[k].toNat : Int) := by
  have e : (⟨l.toArray⟩ : ByteArray)[k]'h' = l[k] := by simp [ByteArray.getElem_eq_getElem_data]
  rw [e]
  have := (l[k]).toNat_lt
  omega
theorem xor_byte {v : Nat} (h : v < 4294967296) (b : UInt8) : bits .xor .u32 (v : Int) (b.toNat : Int) = ((v ^^^ b.toNat : Nat) : Int) := u32_xor_nat _ _ h (by have := b.toNat_lt; omega)
theorem one_of {v : Nat} (h : v < 4294967296) : bits .and .u32 (v : Int) 1 = ((v % 2 : Nat) : Int) := by
  rw [show (1 : Int) = ((1 : Nat) : Int) from rfl, u32_and_nat _ _ h (by decide), nat_mask1]
theorem step_of {v : Nat} (h : v < 4294967296) : bits .xor .u32 ((v : Int) / 2) (bits .and .u32 3988292384 ((-(bits .and .u32 (v : Int) 1)) % 4294967296)) = ((crc1 v : Nat) : Int) := by
  have e2 : (v : Int) / 2 = ((v / 2 : Nat) : Int) := by omega
  rw [one_of h]
  by_cases ho : v % 2 = 1
  · rw [ho, show (-((1 : Nat) : Int)) % 4294967296 = ((4294967295 : Nat) : Int) from rfl, show (3988292384 : Int) = ((3988292384 : Nat) : Int) from rfl, u32_and_nat _ _ (by decide) (by decide), e2, u32_xor_nat _ _ (by omega) (by decide)]
    unfold crc1
    rw [if_pos ho]
    rfl
  · have hz : v % 2 = 0 := by omega
    rw [hz, show (-((0 : Nat) : Int)) % 4294967296 = ((0 : Nat) : Int) from rfl, show (3988292384 : Int) = ((3988292384 : Nat) : Int) from rfl, u32_and_nat _ _ (by decide) (by decide), e2, u32_xor_nat _ _ (by omega) (by decide)]
    unfold crc1
    rw [if_neg ho]
    simp
theorem not_of {v : Nat} (h : v < 4294967296) : bits .xor .u32 IntKind.u32.max (v : Int) = ((v ^^^ 4294967295 : Nat) : Int) := by
  rw [show IntKind.u32.max = ((4294967295 : Nat) : Int) from rfl, u32_xor_nat _ _ (by decide) h, Nat.xor_comm]
set_option maxHeartbeats 1000000 in
set_option maxRecDepth 100000 in
theorem sum_any (l : List UInt8) (w : World) (hl : l.length ≤ 9223372036854775807) :
    Calls Try.prog 76 #[.string ⟨l.toArray⟩] w fun e w' => e = .returned (.int .u32 (sumL l : Nat)) ∧ w = w' := by
  have hs := str_size l
  have HS := Lib.hid hs
  clear hs
  go_enter Try.func76, Try.ntmps76
  go_wp2
  go_loop [3, 7] (fun v i => ∃ k : Nat, k ≤ l.length ∧ i = .int .i64 k ∧ v = .int .u32 (crcL (l.take k) : Nat)) (fun _ i => l.length - (intOf i).toNat)
  case atStart => exact ⟨0, Nat.zero_le _, rfl, rfl⟩
  case round =>
    obtain ⟨k, hk, rfl, rfl⟩ := hrel
    by_cases hlt : k < l.length
    · have hv := crcL_lt (l.take k)
      have hx := xor_byte hv l[k]
      have hb := byte_at (l := l) (k := k) hlt (by rw [str_size]; exact hlt)
      have hlt2 := xor_byte_lt hv l[k]
      go_wp2
      go_loop [3, 16] (fun v i => ∃ j : Nat, j ≤ 8 ∧ i = .int .i64 j ∧ v = .int .u32 (crcN j (crcL (l.take k) ^^^ l[k].toNat) : Nat)) (fun _ i => 8 - (intOf i).toNat)
      case atStart => exact ⟨0, Nat.zero_le _, rfl, rfl⟩
      case round =>
        obtain ⟨j, hj, rfl, rfl⟩ := hrel
        by_cases hj8 : j < 8
        · have hc := crcN_lt hlt2 j
          have hq := Lib.hid (step_of hc)
          go_wp2
          rw [hq.out]
          go_round
          case rel => exact ⟨j + 1, by omega, by go_num, rfl⟩
          case measure => simp [intOf]; omega
        · obtain rfl : j = 8 := by omega
          have hsn := Lib.hid (crcL_snoc (l.take k) l[k])
          have hts := Lib.hid (take_snoc8 hlt)
          go_wp2
          go_round
          case rel => exact ⟨k + 1, by omega, by go_num, by rw [hts.out, hsn.out]⟩
          case measure => simp [intOf]; omega
    · obtain rfl : k = l.length := by omega
      have hv := crcL_lt l
      have e1 : l.take l.length = l := List.take_length
      have hx := Lib.hid (not_of hv)
      rw [e1]
      go_wp2
      go_ret
      exact ⟨ret_i hx.out, rfl⟩
end Go.Proofs.Ytmgdpchjimlmeaa
