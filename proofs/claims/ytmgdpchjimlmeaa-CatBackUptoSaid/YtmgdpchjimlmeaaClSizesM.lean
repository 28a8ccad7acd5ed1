/-
  astrolabelaw23.CatSizes: a list has four bytes, and six for each version; the next number stands ahead, the last root at the end.
-/
import Derived.Test.YtmgdpchjimlmeaaCjM
namespace Go.Proofs.Ytmgdpchjimlmeaa.Cat
open Go.RowKit
def at8 (b : List UInt8) (i : Nat) : Nat := (b[i]?.getD 0).toNat
theorem str_size (l : List UInt8) : (⟨l.toArray⟩ : ByteArray).size = l.length := by simp [ByteArray.size]
theorem ba_at (b : List UInt8) (i : Nat) (h' : i < (⟨b.toArray⟩ : ByteArray).size) : ((⟨b.toArray⟩ : ByteArray)[i]'h').toNat = at8 b i := by
  have h : i < b.length := by rw [str_size] at h'; exact h'
  unfold at8
  rw [List.getElem?_eq_getElem h]
  simp [ByteArray.getElem_eq_getElem_data]
theorem at8_lt (b : List UInt8) (i : Nat) : at8 b i < 256 := by unfold at8; exact (b[i]?.getD 0).toNat_lt
theorem or_i64 {a b k : Nat} (ha : a % 2 ^ k = 0) (hb : b < 2 ^ k) (h : a < 4294967296) (hk : 2 ^ k ≤ 4294967296) : bits .or .i64 (a : Int) (b : Int) = ((a + b : Nat) : Int) := by
  show IntKind.i64.wrap ((BitVec.ofInt 64 (a : Int) ||| BitVec.ofInt 64 (b : Int)).toNat : Int) = _
  have e1 : (BitVec.ofInt 64 (a : Int)).toNat = a := by rw [BitVec.ofInt_natCast, BitVec.toNat_ofNat]; exact Nat.mod_eq_of_lt (by omega)
  have e2 : (BitVec.ofInt 64 (b : Int)).toNat = b := by rw [BitVec.ofInt_natCast, BitVec.toNat_ofNat]; exact Nat.mod_eq_of_lt (by omega)
  rw [BitVec.toNat_or, e1, e2, nat_join k a b ha hb, IntKind.wrap_i64]
  omega
theorem or4 {a b c d : Nat} (ha : a < 256) (hb : b < 256) (hc : c < 256) (hd : d < 256) :
    bits .or .i64 (bits .or .i64 (bits .or .i64 (IntKind.i64.wrap ((a : Int) * 16777216)) (IntKind.i64.wrap ((b : Int) * 65536))) (IntKind.i64.wrap ((c : Int) * 256))) (d : Int) = ((a * 16777216 + b * 65536 + c * 256 + d : Nat) : Int) := by
  rw [IntWalk.i64_in ((a : Int) * 16777216) (by omega), IntWalk.i64_in ((b : Int) * 65536) (by omega), IntWalk.i64_in ((c : Int) * 256) (by omega)]
  rw [show ((a : Int) * 16777216) = ((a * 16777216 : Nat) : Int) by simp, show ((b : Int) * 65536) = ((b * 65536 : Nat) : Int) by simp, show ((c : Int) * 256) = ((c * 256 : Nat) : Int) by simp]
  rw [or_i64 (k := 24) (by omega) (by omega) (by omega) (by omega), or_i64 (k := 16) (by omega) (by omega) (by omega) (by omega), or_i64 (k := 8) (by omega) (by omega) (by omega) (by omega)]
theorem or4' {a b c d : Nat} (ha : a < 256) (hb : b < 256) (hc : c < 256) (hd : d < 256) :
    bits .or .i64 (bits .or .i64 (bits .or .i64 ((a : Int) * 16777216) ((b : Int) * 65536)) ((c : Int) * 256)) (d : Int) = ((a * 16777216 + b * 65536 + c * 256 + d : Nat) : Int) := by
  have := or4 ha hb hc hd
  rw [IntWalk.i64_in ((a : Int) * 16777216) (by omega), IntWalk.i64_in ((b : Int) * 65536) (by omega), IntWalk.i64_in ((c : Int) * 256) (by omega)] at this
  exact this
theorem or2' {c d : Nat} (hc : c < 256) (hd : d < 256) : bits .or .i64 ((c : Int) * 256) (d : Int) = ((c * 256 + d : Nat) : Int) := by
  rw [show ((c : Int) * 256) = ((c * 256 : Nat) : Int) by simp, or_i64 (k := 8) (by omega) (by omega) (by omega) (by omega)]
theorem at8_be {m n i : Nat} (h : i < m) (r : List UInt8) : at8 (be m n ++ r) i = n / 2 ^ (8 * (m - 1 - i)) % 256 := by
  unfold at8
  rw [List.getElem?_append_left (by rw [be_len]; exact h)]
  unfold be
  rw [List.getElem?_map, List.getElem?_range h]
  simp [UInt8.toNat_ofNat']
theorem enc_next (N : Nat) (zs : List (Int × Int)) (h : N < 4294967296) : at8 (encL N zs) 0 * 16777216 + at8 (encL N zs) 1 * 65536 + at8 (encL N zs) 2 * 256 + at8 (encL N zs) 3 = N := by
  unfold encL
  rw [at8_be (by omega), at8_be (by omega), at8_be (by omega), at8_be (by omega)]
  simp
  omega
theorem enc_root (N : Nat) (zs : List (Int × Int)) (h : 0 < zs.length) (hr : ∀ v ∈ zs, 0 ≤ v.2 ∧ v.2 ≤ 511) : ((at8 (encL N zs) ((encL N zs).length - 2) * 256 + at8 (encL N zs) ((encL N zs).length - 1) : Nat) : Int) = (at2 zs (zs.length - 1)).2 := by
  have e := enc_take (next := (N : Int)) (k := zs.length - 1) (by omega : zs.length - 1 < zs.length)
  rw [show zs.length - 1 + 1 = zs.length by omega, List.take_of_length_le (Nat.le_refl _)] at e
  have hm := hr _ (at2_mem (show zs.length - 1 < zs.length by omega))
  have l := enc_len (N : Int) zs
  have l2 := enc_len (N : Int) (zs.take (zs.length - 1))
  rw [List.length_take, show min (zs.length - 1) zs.length = zs.length - 1 by omega] at l2
  obtain ⟨q, hq⟩ := Int.eq_ofNat_of_zero_le hm.1
  have key : ∀ i, i < 2 → at8 (encL N zs) (4 + 6 * (zs.length - 1) + 4 + i) = q / 2 ^ (8 * (2 - 1 - i)) % 256 := by
    intro i hi
    rw [e]
    unfold at8
    rw [List.getElem?_append_right (by rw [List.length_append, be_len, l2]; omega)]
    rw [List.length_append, be_len, l2, show 4 + 6 * (zs.length - 1) + 4 + i - (4 + 6 * (zs.length - 1) + 4) = i by omega, hq, Int.toNat_natCast]
    have := at8_be (n := q) hi []
    rw [List.append_nil] at this
    exact this
  have k0 := key 0 (by omega)
  have k1 := key 1 (by omega)
  rw [l, show 4 + 6 * zs.length - 2 = 4 + 6 * (zs.length - 1) + 4 + 0 by omega, show 4 + 6 * zs.length - 1 = 4 + 6 * (zs.length - 1) + 4 + 1 by omega, k0, k1, hq]
  simp
  omega
end Go.Proofs.Ytmgdpchjimlmeaa.Cat
