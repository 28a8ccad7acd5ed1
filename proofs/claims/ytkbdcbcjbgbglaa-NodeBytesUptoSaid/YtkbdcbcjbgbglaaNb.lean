/-
  What a node is: plain words; shaped, Size of both sides.
-/
import Derived.Test.YtkbdcbcjbgbglaaNa
namespace Go.Proofs.Ytkbdcbcjbgbglaa
open Go.RowKit
def prevK (ks : List (List UInt8)) (k : Nat) : Option (List UInt8) := if k = 0 then none else ks[k - 1]?
def belowB (p : Option (List UInt8)) (k : List UInt8) : Bool := match p with | none => true | some q => decide (q < k)
def kOk (p : Option (List UInt8)) (k : List UInt8) : Bool := decide (1 ≤ k.length) && decide (k.length ≤ 16) && belowB p k
def kchain : Option (List UInt8) → List (List UInt8) → Bool
  | _, [] => true
  | p, k :: r => kOk p k && kchain (some k) r
def dOk (d : Int) : Bool := decide (2 ≤ d) && decide (d ≤ 511)
def shapedB (lf : Bool) (ks : List (List UInt8)) (ds : List Int) : Bool := if lf then decide (ds.length = ks.length) else decide (ds.length = ks.length + 1)
def sumN (ks : List (List UInt8)) : Nat := (ks.map (fun k => k.length + 1)).sum
def sizeN (ks : List (List UInt8)) (ds : List Int) : Nat := 1 + 2 * ds.length + sumN ks
def plainB (lf : Bool) (ks : List (List UInt8)) (ds : List Int) : Bool := shapedB lf ks ds && kchain none ks && ds.all dOk
def rightB (lf : Bool) (ks : List (List UInt8)) (ds : List Int) : Bool := plainB lf ks ds && (!lf || decide (0 < ks.length)) && decide (sizeN ks ds ≤ 120)
theorem sumN_app (a b : List (List UInt8)) : sumN (a ++ b) = sumN a + sumN b := by unfold sumN; simp
theorem sumN_take_le (ks : List (List UInt8)) (k : Nat) : sumN (ks.take k) ≤ sumN ks := by
  have := sumN_app (ks.take k) (ks.drop k)
  rw [List.take_append_drop] at this
  omega
theorem get_lt {α : Type} {xs : List α} {k : Nat} (h : k < xs.length) : ∃ x, xs[k]? = some x := ⟨xs[k], List.getElem?_eq_getElem h⟩
theorem drop_some {α : Type} {xs : List α} {k : Nat} {x : α} (h : xs[k]? = some x) : xs.drop k = x :: xs.drop (k + 1) := by
  obtain ⟨hl, rfl⟩ := List.getElem?_eq_some_iff.1 h
  exact List.drop_eq_getElem_cons hl
theorem take_some {α : Type} {xs : List α} {k : Nat} {x : α} (h : xs[k]? = some x) : xs.take (k + 1) = xs.take k ++ [x] := by
  obtain ⟨hl, rfl⟩ := List.getElem?_eq_some_iff.1 h
  exact List.take_succ_eq_append_getElem hl
theorem sumN_take {ks : List (List UInt8)} {k : Nat} {x : List UInt8} (h : ks[k]? = some x) : sumN (ks.take (k + 1)) = sumN (ks.take k) + (x.length + 1) := by
  rw [take_some h, sumN_app]
  simp [sumN]
theorem prevK_succ {ks : List (List UInt8)} {k : Nat} {x : List UInt8} (h : ks[k]? = some x) : prevK ks (k + 1) = some x := by
  unfold prevK; rw [if_neg (by omega)]; simpa using h
theorem str_size (l : List UInt8) : (⟨l.toArray⟩ : ByteArray).size = l.length := by simp [ByteArray.size]
theorem less_dec (a b : List UInt8) : Op.bytesLess a b = decide (a < b) := bytesLess_eq a b
set_option maxHeartbeats 4000000 in
set_option maxRecDepth 100000 in
theorem shaped_any (lf : Bool) (A : Option Addr) (c : Nat) (ks : List (List UInt8)) (B : Option Addr) (d : Nat) (ds : List Int) (w : World) (hl : ks.length ≤ 4000000) :
    Calls Try.prog 39 #[.agg #[.bool lf, .slice A ks.length c, .slice B ds.length d]] w fun e w' => e = .returned (.bool (shapedB lf ks ds)) ∧ Below w.heap.size w w' := by
  have hw : IntKind.i64.wrap ((ks.length : Int) + 1) = (ks.length : Int) + 1 := IntWalk.i64_in _ (by omega)
  cases lf
  · unfold shapedB
    simp only [Bool.false_eq_true, if_false]
    by_cases he : ds.length = ks.length + 1
    · rw [decide_eq_true he]
      have e1 : ((ds.length : Int) == (ks.length : Int) + 1) = true := by simp; omega
      have e2 : (ds.length == ks.length + 1) = true := by simp; omega
      clear he
      go_enter Try.func39, Try.ntmps39
      go_wp2
      go_ret
      exact ⟨rfl, bda _ _⟩
    · rw [decide_eq_false he]
      have e1 : ((ds.length : Int) == (ks.length : Int) + 1) = false := by simp; omega
      have e2 : (ds.length == ks.length + 1) = false := by simp; omega
      clear he
      go_enter Try.func39, Try.ntmps39
      go_wp2
      go_ret
      exact ⟨rfl, bda _ _⟩
  · unfold shapedB
    simp only [if_true]
    by_cases he : ds.length = ks.length
    · rw [decide_eq_true he]
      have e1 : ((ds.length : Int) == (ks.length : Int)) = true := by simp; omega
      have e2 : (ds.length == ks.length) = true := by simp; omega
      clear he
      go_enter Try.func39, Try.ntmps39
      go_wp2
      go_ret
      exact ⟨rfl, bda _ _⟩
    · rw [decide_eq_false he]
      have e1 : ((ds.length : Int) == (ks.length : Int)) = false := by simp; omega
      have e2 : (ds.length == ks.length) = false := by simp; omega
      clear he
      go_enter Try.func39, Try.ntmps39
      go_wp2
      go_ret
      exact ⟨rfl, bda _ _⟩
set_option maxHeartbeats 4000000 in
set_option maxRecDepth 100000 in
theorem size_any (lf : Bool) (A : Option Addr) (c : Nat) (ks : List (List UInt8)) (B : Option Addr) (d : Nat) (ds : List Int) (w : World) (h : Rl sv w A c ks) (hl : ks.length ≤ 4000000) (hz : sizeN ks ds < 4611686018427387904) :
    Calls Try.prog 20 #[.agg #[.bool lf, .slice A ks.length c, .slice B ds.length d]] w fun e w' => e = .returned (.int .i64 (sizeN ks ds)) ∧ Below w.heap.size w w' := by
  have H := Lib.hid h
  have HZ := Lib.hid hz
  have hn : 1 + 2 * ds.length < 4611686018427387904 := by unfold sizeN at hz; omega
  clear h hz
  have w1 : IntKind.i64.wrap (2 * (ds.length : Int)) = 2 * (ds.length : Int) := IntWalk.i64_in _ (by omega)
  have w2 : IntKind.i64.wrap (1 + 2 * (ds.length : Int)) = 1 + 2 * (ds.length : Int) := IntWalk.i64_in _ (by omega)
  clear hn
  go_enter Try.func20, Try.ntmps20
  go_wp2_with fail
  obtain ⟨W, hW⟩ : ∃ W : World, W = w.alloc (.cells #[.bool lf, .slice A ks.length c, .slice B ds.length d] 25) := ⟨_, rfl⟩
  have RW := Lib.hid (show W.heap[w.heap.size]? = some (.cells #[.bool lf, .slice A ks.length c, .slice B ds.length d] 25) by rw [hW]; exact heap_alloc_new _ _)
  have B1 := Lib.hid (show Below w.heap.size w W by rw [hW]; exact bda _ _)
  rw [← hW]
  clear hW
  clear w1 w2
  go_loopw [3, 14] (fun s i wr => ∃ k : Nat, k ≤ ks.length ∧ i = .int .i64 k ∧ s = .int .i64 (1 + 2 * (ds.length : Int) + (sumN (ks.take k) : Int)) ∧ Hid (Below W.heap.size W wr)) (fun _ i _ => ks.length - (intOf i).toNat)
  case atStart => exact ⟨0, Nat.zero_le _, rfl, by simp [sumN], Lib.hid (Below.refl _ _)⟩
  case round =>
    obtain ⟨k, hk, rfl, rfl, hb⟩ := hrel
    have KW := Lib.hid (show Below w.heap.size w wr from B1.out.trans (hb.out.mono B1.out.size))
    have f1 := row_c (row_on RW.out hb.out) (i := 1) rfl
    by_cases hlt : k < ks.length
    · obtain ⟨x, hx⟩ := get_lt hlt
      obtain ⟨b, off, hA, hbl, f2⟩ := (H.out.below KW.out).cell hx
      have ST := Lib.hid (sumN_take hx)
      have SL := sumN_take_le ks (k + 1)
      have hZ := HZ.out
      unfold sizeN at hZ
      rw [ST.out] at SL
      have HLT := Lib.hid hlt
      have hsx := str_size x
      unfold sv at f2
      generalize sumN (ks.take k) = S at *
      generalize hX : x.length = X at *
      have w3 : IntKind.i64.wrap ((X : Int) + 1) = (X : Int) + 1 := IntWalk.i64_in _ (by omega)
      have w4 : IntKind.i64.wrap (1 + 2 * (ds.length : Int) + (S : Int) + ((X : Int) + 1)) = 1 + 2 * (ds.length : Int) + (S : Int) + ((X : Int) + 1) := IntWalk.i64_in _ (by omega)
      have k0 : (0 : Int) ≤ (k : Int) := by omega
      have k1 : (k : Int) < (ks.length : Int) := by omega
      subst hA
      clear SL hZ hX hx hbl
      go_wp2
      go_roundw
      case rel => exact ⟨k + 1, HLT.out, by go_num, by rw [ST.out]; exact congrArg (Value.int .i64) (by omega), hb⟩
      case measure => simp [intOf]; have := HLT.out; omega
    · obtain rfl : k = ks.length := by omega
      have ES := Lib.hid (show sumN (ks.take ks.length) = sumN ks by rw [List.take_length])
      go_wp2
      go_ret
      exact ⟨congrArg (fun z => Ending.returned (.int .i64 z)) (by rw [ES.out]; unfold sizeN; omega), KW.out⟩
set_option maxHeartbeats 4000000 in
set_option maxRecDepth 100000 in
theorem rsize_any (lf : Bool) (A : Option Addr) (c : Nat) (ks : List (List UInt8)) (B : Option Addr) (d : Nat) (ds : List Int) (w : World) (h : Rl sv w A c ks) (hl : ks.length ≤ 4000000) (hz : sizeN ks ds < 4611686018427387904) :
    Calls Try.prog 21 #[.agg #[.bool lf, .slice A ks.length c, .slice B ds.length d]] w fun e w' => e = .returned (.int .i64 (sizeN ks ds)) ∧ Below w.heap.size w w' := by
  have H := Lib.hid h
  have HZ := Lib.hid hz
  have hn : 1 + 2 * ds.length < 4611686018427387904 := by unfold sizeN at hz; omega
  clear h hz
  have w1 : IntKind.i64.wrap (2 * (ds.length : Int)) = 2 * (ds.length : Int) := IntWalk.i64_in _ (by omega)
  have w2 : IntKind.i64.wrap (1 + 2 * (ds.length : Int)) = 1 + 2 * (ds.length : Int) := IntWalk.i64_in _ (by omega)
  clear hn
  go_enter Try.func21, Try.ntmps21
  go_wp2_with fail
  obtain ⟨W, hW⟩ : ∃ W : World, W = w.alloc (.cells #[.bool lf, .slice A ks.length c, .slice B ds.length d] 33) := ⟨_, rfl⟩
  have RW := Lib.hid (show W.heap[w.heap.size]? = some (.cells #[.bool lf, .slice A ks.length c, .slice B ds.length d] 33) by rw [hW]; exact heap_alloc_new _ _)
  have B1 := Lib.hid (show Below w.heap.size w W by rw [hW]; exact bda _ _)
  rw [← hW]
  clear hW
  clear w1 w2
  go_loopw [3, 4] (fun s i wr => ∃ k : Nat, k ≤ ks.length ∧ i = .int .i64 k ∧ s = .int .i64 (1 + 2 * (ds.length : Int) + (sumN (ks.take k) : Int)) ∧ Hid (Below W.heap.size W wr)) (fun _ i _ => ks.length - (intOf i).toNat)
  case atStart => exact ⟨0, Nat.zero_le _, rfl, by simp [sumN], Lib.hid (Below.refl _ _)⟩
  case round =>
    obtain ⟨k, hk, rfl, rfl, hb⟩ := hrel
    have KW := Lib.hid (show Below w.heap.size w wr from B1.out.trans (hb.out.mono B1.out.size))
    have f1 := row_c (row_on RW.out hb.out) (i := 1) rfl
    by_cases hlt : k < ks.length
    · obtain ⟨x, hx⟩ := get_lt hlt
      obtain ⟨b, off, hA, hbl, f2⟩ := (H.out.below KW.out).cell hx
      have ST := Lib.hid (sumN_take hx)
      have SL := sumN_take_le ks (k + 1)
      have hZ := HZ.out
      unfold sizeN at hZ
      rw [ST.out] at SL
      have HLT := Lib.hid hlt
      have hsx := str_size x
      unfold sv at f2
      generalize sumN (ks.take k) = S at *
      generalize hX : x.length = X at *
      have w3 : IntKind.i64.wrap ((X : Int) + 1) = (X : Int) + 1 := IntWalk.i64_in _ (by omega)
      have w4 : IntKind.i64.wrap (1 + 2 * (ds.length : Int) + (S : Int) + ((X : Int) + 1)) = 1 + 2 * (ds.length : Int) + (S : Int) + ((X : Int) + 1) := IntWalk.i64_in _ (by omega)
      have w5 : IntKind.i64.wrap (1 + 2 * (ds.length : Int) + (S : Int) + 1) = 1 + 2 * (ds.length : Int) + (S : Int) + 1 := IntWalk.i64_in _ (by omega)
      have w6 : IntKind.i64.wrap (1 + 2 * (ds.length : Int) + (S : Int) + 1 + (X : Int)) = 1 + 2 * (ds.length : Int) + (S : Int) + 1 + (X : Int) := IntWalk.i64_in _ (by omega)
      have k0 : (0 : Int) ≤ (k : Int) := by omega
      have k1 : (k : Int) < (ks.length : Int) := by omega
      subst hA
      clear SL hZ hX hx hbl
      go_wp2
      go_roundw
      case rel => exact ⟨k + 1, HLT.out, by go_num, by rw [ST.out]; exact congrArg (Value.int .i64) (by omega), hb⟩
      case measure => simp [intOf]; have := HLT.out; omega
    · obtain rfl : k = ks.length := by omega
      have ES := Lib.hid (show sumN (ks.take ks.length) = sumN ks by rw [List.take_length])
      go_wp2
      go_ret
      exact ⟨congrArg (fun z => Ending.returned (.int .i64 z)) (by rw [ES.out]; unfold sizeN; omega), KW.out⟩
end Go.Proofs.Ytkbdcbcjbgbglaa
