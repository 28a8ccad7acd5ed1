/-
  A number's bytes and back: the document's four and number, cat.read.
-/
import Derived.Test.YtmgdpchjimlmeaaCaM
import Derived.Test.YtmgdpchjimlmeaaClSizesM
import Derived.Lib.ConvBytes
namespace Go.Proofs.Ytmgdpchjimlmeaa.Cat
open Go.RowKit
/-- The number of some bytes, the greatest first. -/
def rdB (l : List UInt8) : Nat := l.foldl (fun a b => a * 256 + b.toNat) 0
def rd4 (l : List UInt8) : Nat := at8 l 0 * 16777216 + at8 l 1 * 65536 + at8 l 2 * 256 + at8 l 3
theorem rdB_snoc (l : List UInt8) (b : UInt8) : rdB (l ++ [b]) = rdB l * 256 + b.toNat := by unfold rdB; rw [List.foldl_append]; rfl
theorem rdB_take {l : List UInt8} {k : Nat} (h : k < l.length) : rdB (l.take (k + 1)) = rdB (l.take k) * 256 + at8 l k := by
  rw [List.take_succ_eq_append_getElem h, rdB_snoc]
  unfold at8
  rw [List.getElem?_eq_getElem h]
  rfl
theorem rdB_lt (l : List UInt8) : rdB l < 256 ^ l.length := by
  induction h : l.length generalizing l with
  | zero => have : l = [] := List.eq_nil_of_length_eq_zero h; subst this; exact Nat.one_pos
  | succ k ih =>
    obtain ⟨r, b, rfl⟩ : ∃ r b, l = r ++ [b] := ⟨l.dropLast, l.getLast (by intro e; rw [e] at h; simp at h), (List.dropLast_concat_getLast _).symm⟩
    have hr : r.length = k := by simpa using h
    have := ih r hr
    have hb := b.toNat_lt
    rw [rdB_snoc, Nat.pow_succ]
    omega
theorem conv4 (n : Nat) (W : World) :
    (convert 68 9 (.slice (some ⟨W.heap.size, 0, none⟩) 4 4)).run Try.prog (W.alloc (.cells #[.int .u8 ((n : Int) / 16777216 % 256), .int .u8 ((n : Int) / 65536 % 256), .int .u8 ((n : Int) / 256 % 256), .int .u8 ((n : Int) % 256)] 5)) = .ok (.string ⟨(be 4 n).toArray⟩) (W.alloc (.cells #[.int .u8 ((n : Int) / 16777216 % 256), .int .u8 ((n : Int) / 65536 % 256), .int .u8 ((n : Int) / 256 % 256), .int .u8 ((n : Int) % 256)] 5)) := by
  have key : ∀ j, (hj : j < (be 4 n).length) → (W.alloc (.cells #[.int .u8 ((n : Int) / 16777216 % 256), .int .u8 ((n : Int) / 65536 % 256), .int .u8 ((n : Int) / 256 % 256), .int .u8 ((n : Int) % 256)] 5)).cell? ((⟨W.heap.size, 0, none⟩ : Addr).add j) = some (.int .u8 ((be 4 n)[j].toNat : Int)) := by
    intro j hj
    rw [be_len] at hj
    rw [Addr.add_lit, Nat.zero_add, cell_of_row _ _ _ _ _ _ (heap_alloc_new W _)]
    match j, hj with
    | 0, _ => simp [be, UInt8.toNat_ofNat']
    | 1, _ => simp [be, UInt8.toNat_ofNat']
    | 2, _ => simp [be, UInt8.toNat_ofNat']
    | 3, _ => simp [be, UInt8.toNat_ofNat']
  have := run_convert_bytes_back (P := Try.prog) (W.alloc (.cells #[.int .u8 ((n : Int) / 16777216 % 256), .int .u8 ((n : Int) / 65536 % 256), .int .u8 ((n : Int) / 256 % 256), .int .u8 ((n : Int) % 256)] 5)) 68 9 5 ⟨W.heap.size, 0, none⟩ 4 (be 4 n) Try.underlying68 Try.underlying5 Try.underlying9 key
  rw [be_len] at this
  exact this
set_option maxHeartbeats 1000000 in
set_option maxRecDepth 100000 in
theorem read_any (l : List UInt8) (w : World) (hl : l.length ≤ 4) :
    Calls Try.prog 22 #[.string ⟨l.toArray⟩] w fun e w' => e = .returned (.int .i64 (rdB l)) ∧ Below w.heap.size w w' := by
  have hs := str_size l
  have hcv := Lib.run_convert_string_bytes (P := Try.prog) w 9 68 5 ⟨l.toArray⟩ Try.underlying9 Try.underlying68 Try.underlying5
  have hcell : ∀ j, j < l.length → (Lib.bytesWorld w 5 ⟨l.toArray⟩).cell? ⟨w.heap.size, j, none⟩ = some (.int .u8 (at8 l j : Int)) := by
    intro j hj
    rw [Lib.bytesWorld_cell _ _ _ _ (by rw [hs]; exact hj)]
    simp [at8, List.getD]
  have hB : Below w.heap.size w (Lib.bytesWorld w 5 ⟨l.toArray⟩) := ⟨rfl, rfl, rfl, by rw [Lib.bytesWorld_size]; omega, fun k hk => Lib.bytesWorld_at_old _ _ _ _ hk⟩
  rw [hs] at hcv
  generalize grownCap w l.length 0 5 = cap at hcv
  generalize Lib.bytesWorld w 5 ⟨l.toArray⟩ = W at *
  have HC := Lib.hid hcell
  have HB := Lib.hid hB
  clear hs hcell hB
  go_enter Try.func22, Try.ntmps22
  go_wp2_with fail
  clear hcv
  go_loop [3, 9] (fun v i => ∃ k : Nat, k ≤ l.length ∧ i = .int .i64 k ∧ v = .int .i64 (rdB (l.take k) : Nat)) (fun _ i => l.length - (intOf i).toNat)
  case atStart => exact ⟨0, Nat.zero_le _, rfl, rfl⟩
  case round =>
    obtain ⟨k, hk, rfl, rfl⟩ := hrel
    by_cases hlt : k < l.length
    · have f := HC.out k hlt
      have hb := at8_lt l k
      have NX := Lib.hid (rdB_take hlt)
      have hv : rdB (l.take k) < 16777216 := by
        have h1 := rdB_lt (l.take k)
        have h2 : (l.take k).length ≤ 3 := by rw [List.length_take]; omega
        have h3 : 256 ^ (l.take k).length ≤ 256 ^ 3 := Nat.pow_le_pow_right (by omega) h2
        omega
      have HLT := Lib.hid hlt
      generalize rdB (l.take k) = a at *
      generalize at8 l k = b at *
      have k0 : (0 : Int) ≤ (k : Int) := by omega
      have k1 : (k : Int) < (l.length : Int) := by omega
      have OR : bits .or .i64 ((a : Int) * 256) (b : Int) = ((a * 256 + b : Nat) : Int) := by
        rw [show ((a : Int) * 256) = ((a * 256 : Nat) : Int) by simp, or_i64 (k := 8) (by omega) (by omega) (by omega) (by omega)]
      go_wp2
      go_round
      case rel => exact ⟨k + 1, HLT.out, by go_num, by rw [NX.out]; exact congrArg (Value.int .i64) (by omega)⟩
      case measure => simp [intOf]; have := HLT.out; omega
    · obtain rfl : k = l.length := by omega
      go_wp2
      go_ret
      exact ⟨rfl, HB.out⟩
end Go.Proofs.Ytmgdpchjimlmeaa.Cat
