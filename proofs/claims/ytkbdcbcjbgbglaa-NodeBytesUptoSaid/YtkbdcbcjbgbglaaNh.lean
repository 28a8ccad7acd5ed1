/-
  What is read: take, number.
-/
import Derived.Test.YtkbdcbcjbgbglaaNg
namespace Go.Proofs.Ytkbdcbcjbgbglaa
open Go.RowKit
set_option linter.unusedVariables false
def at8 (b : List UInt8) (i : Nat) : Nat := (b[i]?.getD 0).toNat
theorem ba_at (b : List UInt8) (i : Nat) (h' : i < (⟨b.toArray⟩ : ByteArray).size) : ((⟨b.toArray⟩ : ByteArray)[i]'h').toNat = at8 b i := by
  have h : i < b.length := by rw [str_size] at h'; exact h'
  unfold at8
  rw [List.getElem?_eq_getElem h]
  simp [ByteArray.getElem_eq_getElem_data]
theorem at8_lt (b : List UInt8) (i : Nat) : at8 b i < 256 := by unfold at8; exact (b[i]?.getD 0).toNat_lt
set_option maxRecDepth 100000 in
theorem or_i64 {a b k : Nat} (ha : a % 2 ^ k = 0) (hb : b < 2 ^ k) (h : a < 4294967296) (hk : 2 ^ k ≤ 4294967296) : bits .or .i64 (a : Int) (b : Int) = ((a + b : Nat) : Int) := by
  show IntKind.i64.wrap ((BitVec.ofInt 64 (a : Int) ||| BitVec.ofInt 64 (b : Int)).toNat : Int) = _
  have e1 : (BitVec.ofInt 64 (a : Int)).toNat = a := by rw [BitVec.ofInt_natCast, BitVec.toNat_ofNat]; exact Nat.mod_eq_of_lt (by omega)
  have e2 : (BitVec.ofInt 64 (b : Int)).toNat = b := by rw [BitVec.ofInt_natCast, BitVec.toNat_ofNat]; exact Nat.mod_eq_of_lt (by omega)
  have e3 : a ||| b = a + b := by
    have h1 : a = (a / 2 ^ k) <<< k := by rw [Nat.shiftLeft_eq]; have := Nat.div_add_mod a (2 ^ k); rw [ha, Nat.mul_comm] at this; omega
    rw [h1, ← Nat.shiftLeft_add_eq_or_of_lt hb]
  rw [BitVec.toNat_or, e1, e2, e3]
  exact IntWalk.i64_in _ (by omega)
theorem ext_take (b : List UInt8) (n : Nat) : (⟨b.toArray⟩ : ByteArray).extract 0 n = ⟨(b.take n).toArray⟩ := by rw [Lib.extract_eq]; simp
theorem ext_drop (b : List UInt8) (n : Nat) : (⟨b.toArray⟩ : ByteArray).extract n b.length = ⟨(b.drop n).toArray⟩ := by
  rw [Lib.extract_eq]
  simp only [List.take_of_length_le (show (b.drop n).length ≤ b.length - n by simp)]
def tkL (m : Nat) (L : List UInt8) : List UInt8 := if m ≤ L.length then L.take m else []
def tkR (m : Nat) (L : List UInt8) : List UInt8 := if m ≤ L.length then L.drop m else []
def tkM (m : Nat) (L : List UInt8) (b : Bool) : Bool := if m ≤ L.length then b else true
def rdB (l : List UInt8) : Nat := l.foldl (fun a b => a * 256 + b.toNat) 0
theorem rdB_snoc (l : List UInt8) (b : UInt8) : rdB (l ++ [b]) = rdB l * 256 + b.toNat := by unfold rdB; rw [List.foldl_append]; rfl
theorem rdB_take {l : List UInt8} {k : Nat} (h : k < l.length) : rdB (l.take (k + 1)) = rdB (l.take k) * 256 + at8 l k := by
  rw [List.take_succ_eq_append_getElem h, rdB_snoc]
  unfold at8
  rw [List.getElem?_eq_getElem h]
  rfl
theorem rdB_lt (l : List UInt8) : rdB l < 256 ^ l.length := by
  induction h : l.length generalizing l with
  | zero => have : l = [] := List.eq_nil_of_length_eq_zero h; subst this; exact Nat.one_pos
  | succ k ih =>
    obtain ⟨r, b, rfl⟩ : ∃ r b, l = r ++ [b] := ⟨l.dropLast, l.getLast (by intro e; rw [e] at h; simp at h), (List.dropLast_concat_getLast _).symm⟩
    have hr : r.length = k := by simpa using h
    have := ih r hr
    have hb := b.toNat_lt
    rw [rdB_snoc, Nat.pow_succ]
    omega
theorem tkL_len (m : Nat) (L : List UInt8) : (tkL m L).length ≤ m := by unfold tkL; split <;> simp; omega
theorem grow_trans {a b c : World} {g : Nat} (h : a.grownBy b (some g)) (k : b.grownBy c (some g)) : a.grownBy c (some g) :=
  ⟨k.os.trans h.os, k.tape.trans h.tape, k.output.trans h.output, Nat.le_trans h.size k.size, fun i hi hne => (k.block i (Nat.lt_of_lt_of_le hi h.size) hne).trans (h.block i hi hne)⟩
theorem grow_below {a b : World} {g : Nat} (h : Below a.heap.size a b) : a.grownBy b (some g) := ⟨h.os, h.tape, h.output, h.size, fun i hi _ => h.block i hi⟩
theorem grow_set (a : World) (g o : Nat) (v : Value) : a.grownBy (a.setCell ⟨g, o, none⟩ v) (some g) := ⟨rfl, rfl, rfl, by simp, fun i hi hne => heap_setCell_other _ _ _ _ (fun e => hne (by simp [e]))⟩
theorem row_set {w : World} {g i : Nat} {cs : Array Value} {T : TypeId} (h : w.heap[g]? = some (.cells cs T (0, 0))) (v : Value) : (w.setCell ⟨g, i, none⟩ v).heap[g]? = some (.cells (cs.setIfInBounds i v) T (0, 0)) := heap_setCell_same w g i cs T v h
theorem row_far {w : World} {g k i : Nat} {o : Obj} (h : w.heap[k]? = some o) (hne : k ≠ g) (v : Value) : (w.setCell ⟨g, i, none⟩ v).heap[k]? = some o := (heap_setCell_other w ⟨g, i, none⟩ k v hne).trans h
set_option maxHeartbeats 4000000 in
set_option maxRecDepth 100000 in
theorem take_any (g m : Nat) (L : List UInt8) (mb : Bool) (w : World) (h : w.heap[g]? = some (.cells #[sv L, .bool mb] 72 (0, 0))) (hm : m ≤ 255) (hl : L.length ≤ 4000000) :
    Calls Try.prog 37 #[.pointer (some ⟨g, 0, none⟩), .int .i64 m] w fun e w' => e = .returned (sv (tkL m L)) ∧ w'.heap[g]? = some (.cells #[sv (tkR m L), .bool (tkM m L mb)] 72 (0, 0)) ∧ w.grownBy w' (some g) := by
  have f0 : w.cell? ⟨g, 0, none⟩ = some (sv L) := row_c h (i := 0) rfl
  have f1 : w.cell? ⟨g, 1, none⟩ = some (.bool mb) := row_c h (i := 1) rfl
  have q0 := frozen_of_row _ _ 0 _ _ h
  have q1 := frozen_of_row _ _ 1 _ _ h
  have hs := str_size L
  have H := Lib.hid h
  clear h
  by_cases hc : m ≤ L.length
  · have e1 : decide (L.length < m) = false := decide_eq_false (by omega)
    have e2 : decide ((L.length : Int) < (m : Int)) = false := decide_eq_false (by omega)
    have x1 := ext_take L m
    have x2 := ext_drop L m
    have c0 : (0 : Int) ≤ (m : Int) := by omega
    have c1 : (m : Int) ≤ (L.length : Int) := by omega
    unfold tkL tkR tkM
    simp only [if_pos hc]
    unfold sv at *
    generalize (⟨L.toArray⟩ : ByteArray) = d at *
    generalize hP : (⟨(L.take m).toArray⟩ : ByteArray) = p at *
    generalize hD : (⟨(L.drop m).toArray⟩ : ByteArray) = r at *
    go_enter Try.func37, Try.ntmps37
    go_wp2
    go_ret
    exact ⟨rfl, row_set H.out _, grow_set _ _ _ _⟩
  · have e1 : decide (L.length < m) = true := decide_eq_true (by omega)
    have e2 : decide ((L.length : Int) < (m : Int)) = true := decide_eq_true (by omega)
    unfold tkL tkR tkM
    simp only [if_neg hc]
    unfold sv at *
    generalize (⟨L.toArray⟩ : ByteArray) = d at *
    clear hc
    go_enter Try.func37, Try.ntmps37
    go_wp2
    go_ret
    exact ⟨rfl, row_set (row_set H.out _) _, grow_trans (grow_set _ _ _ _) (grow_set _ _ _ _)⟩
set_option maxHeartbeats 4000000 in
set_option maxRecDepth 100000 in
theorem number_any (g m : Nat) (L : List UInt8) (mb : Bool) (w : World) (h : w.heap[g]? = some (.cells #[sv L, .bool mb] 72 (0, 0))) (hm : m ≤ 2) (hl : L.length ≤ 4000000) :
    Calls Try.prog 36 #[.pointer (some ⟨g, 0, none⟩), .int .i64 m] w fun e w' => e = .returned (.int .i64 (rdB (tkL m L))) ∧ w'.heap[g]? = some (.cells #[sv (tkR m L), .bool (tkM m L mb)] 72 (0, 0)) ∧ w.grownBy w' (some g) := by
  have TA := Lib.hid (take_any g m L mb w h (by omega) hl)
  have ll : (tkL m L).length ≤ 2 := Nat.le_trans (tkL_len m L) hm
  obtain ⟨l, hl'⟩ : ∃ l, tkL m L = l := ⟨_, rfl⟩
  rw [hl'] at TA ll ⊢
  clear hl' h
  go_enter Try.func36, Try.ntmps36
  go_wp2_with fail
  refine TA.out.mono ?_
  rintro e w2 ⟨rfl, hr, hg⟩
  have R2 := Lib.hid hr
  have G2 := Lib.hid hg
  clear hr hg TA
  have hs := str_size l
  have hcv := Lib.run_convert_string_bytes (P := Try.prog) w2 9 67 5 ⟨l.toArray⟩ Try.underlying9 Try.underlying67 Try.underlying5
  have hcell : ∀ j, j < l.length → (Lib.bytesWorld w2 5 ⟨l.toArray⟩).cell? ⟨w2.heap.size, j, none⟩ = some (.int .u8 (at8 l j : Int)) := by
    intro j hj
    rw [Lib.bytesWorld_cell _ _ _ _ (by rw [hs]; exact hj)]
    simp [at8, List.getD]
  have hB : Below w2.heap.size w2 (Lib.bytesWorld w2 5 ⟨l.toArray⟩) := ⟨rfl, rfl, rfl, by rw [Lib.bytesWorld_size]; omega, fun k hk => Lib.bytesWorld_at_old _ _ _ _ hk⟩
  rw [hs] at hcv
  generalize grownCap w2 l.length 0 5 = cap at hcv
  generalize Lib.bytesWorld w2 5 ⟨l.toArray⟩ = W at *
  have HC := Lib.hid hcell
  have RW := Lib.hid (row_on R2.out hB)
  have HB := Lib.hid (grow_trans G2.out (grow_below (g := g) hB))
  clear hs hcell hB
  unfold sv
  go_wp2_with fail
  clear hcv
  go_loop [5, 13] (fun v i => ∃ k : Nat, k ≤ l.length ∧ i = .int .i64 k ∧ v = .int .i64 (rdB (l.take k) : Nat)) (fun _ i => l.length - (intOf i).toNat)
  case atStart => exact ⟨0, Nat.zero_le _, rfl, rfl⟩
  case round =>
    obtain ⟨k, hk, rfl, rfl⟩ := hrel
    by_cases hlt : k < l.length
    · have f := HC.out k hlt
      have hb := at8_lt l k
      have NX := Lib.hid (rdB_take hlt)
      have hv : rdB (l.take k) < 16777216 := by
        have h1 := rdB_lt (l.take k)
        have h2 : (l.take k).length ≤ 3 := by rw [List.length_take]; omega
        have h3 : 256 ^ (l.take k).length ≤ 256 ^ 3 := Nat.pow_le_pow_right (by omega) h2
        omega
      have HLT := Lib.hid hlt
      generalize rdB (l.take k) = a at *
      generalize at8 l k = b at *
      have k0 : (0 : Int) ≤ (k : Int) := by omega
      have k1 : (k : Int) < (l.length : Int) := by omega
      have OR : bits .or .i64 ((a : Int) * 256) (b : Int) = ((a * 256 + b : Nat) : Int) := by
        rw [show ((a : Int) * 256) = ((a * 256 : Nat) : Int) by simp, or_i64 (k := 8) (by omega) (by omega) (by omega) (by omega)]
      go_wp2
      go_round
      case rel => exact ⟨k + 1, HLT.out, by go_num, by rw [NX.out]; exact congrArg (Value.int .i64) (by omega)⟩
      case measure => simp [intOf]; have := HLT.out; omega
    · obtain rfl : k = l.length := by omega
      go_wp2
      go_ret
      exact ⟨by first | rfl | rw [List.take_length], RW.out, HB.out⟩
end Go.Proofs.Ytkbdcbcjbgbglaa
