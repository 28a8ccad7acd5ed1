import Derived.Test.YtcciibejachjkaaDoorMB0
import Derived.Test.YtcciibejachjkaaDoorMB1
import Derived.Lib.ItoaLen
import Derived.Shelf.Strings.Builder1
import Derived.Shelf.Strings.Builder2
import Derived.Shelf.Strings.OnBuilder
import Derived.Shelf.Strings.BuilderF
import Derived.Shelf.Strconv.Itoa0
import Derived.Shelf.Strconv.Itoa1
import Derived.Shelf.LaysM
import Derived.Shelf.Strconv.Itoa2
import Derived.Shelf.Strings.Prefix
import Derived.Shelf.Bits.Mul64
import Derived.Shelf.Strings.Repeat
import Derived.Ground.Names2Prog
import Derived.Shelf.Slices.ReverseS
import Derived.Shelf.Slices.Cells
import Derived.Test.YtcciibejachjkaaDoorProg
import Derived.Lib.AppendIntMem
import Derived.Lib.Walk
import Derived.Lib.OwnBridge
import Derived.Lib.Join
import Derived.Laws.OwnMore
section
/-
  zint.Small.
-/
namespace Go.Proofs.YtcciibejachjkaaDoor
open Go.RowKit
theorem ret_ib {a b : Int} {p q : Bool} (h : a = b) (h' : p = q) : Ending.returned (.tuple #[.int .i64 a, .bool p]) = .returned (.tuple #[.int .i64 b, .bool q]) := by rw [h, h']
theorem wrap_i64_eq (x : Int) (h : -9223372036854775808 ≤ x) (h' : x ≤ 9223372036854775807) : IntKind.i64.wrap x = x := IntWalk.i64_in _ ⟨h, h'⟩
theorem turn_u64 (x : Nat) (h : 0 < x) (h' : x ≤ 9223372036854775808) : wrap64 (IntKind.u64.wrap (-(x : Int))) = -(x : Int) := by
  rw [wrap_u64_eq]; unfold wrap64; omega
set_option maxHeartbeats 2000000 in
set_option maxRecDepth 100000 in
theorem zsmall_neg (A : Option Addr) (c : Nat) (s : Bool) (xs : List Nat) (w : World) (h : Dg w A c xs) (hl : xs.length ≤ 1000000) (hz : s = true) (h0 : 0 < val xs) (h1 : val xs ≤ 9223372036854775808) :
    Calls Tryd.prog 15 #[.agg #[.bool s, .slice A xs.length c]] w fun e w' => e = .returned (.tuple #[.int .i64 (-(val xs : Int)), .bool true]) ∧ Below w.heap.size w w' := by
  have l1 := digs_len_le h.2.1
  obtain ⟨t1, ht1⟩ : ∃ t, (s && decide (0 < val xs)) = t := ⟨_, rfl⟩
  have TA := Lib.hid (fun W h => take_any A c s xs W h (by omega))
  have HC := Lib.hid (fun A1 c1 W h1 => small_any A1 c1 (digs (val xs)) W h1 (by omega))
  simp only [val_digs] at HC
  have e1 : (s && decide (0 < val xs)) = true := by rw [hz, decide_eq_true h0]; rfl
  rw [e1] at ht1
  rw [e1] at TA
  have hs : small? (val xs) = val xs := by unfold small?; rw [if_pos (by omega)]
  have hd : decide (val xs < 18446744073709551616) = true := decide_eq_true (by omega)
  rw [hs, hd] at HC
  have dd : decide (((val xs : Nat) : Int) ≤ 9223372036854775808) = true := by simp; omega
  have HT := Lib.hid (turn_u64 (val xs) h0 h1)
  clear hs hd e1 h0 h1 hz
  clear ht1
  generalize val xs = x at *
  go_enter Tryd.func15, Tryd.ntmps15
  go_wp2_with fail
  refine (TA.out _ (h.below (below1 _ _))).mono ?_
  rintro e w1 ⟨A1, c1, rfl, hd, hb⟩
  have K1 := Lib.hid hb
  have G1 := Lib.hid hd
  obtain ⟨hc1, hf1⟩ := bcell hb
  clear hb hd h
  go_wp2_with fail
  refine (HC.out A1 c1 _ (G1.out.below (below1 _ _))).mono ?_
  rintro e w2 ⟨rfl, nn, rfl⟩
  go_wp2
  go_ret2
  exact ⟨ret_ib HT.out rfl, below_drewN (((below1 w _).trans (K1.out.mono (by simp))).alloc (by have := K1.out.size; simp at this; omega) _) _⟩
set_option maxHeartbeats 2000000 in
set_option maxRecDepth 100000 in
theorem zsmall_pos (A : Option Addr) (c : Nat) (s : Bool) (xs : List Nat) (w : World) (h : Dg w A c xs) (hl : xs.length ≤ 1000000) (hz : (s && decide (0 < val xs)) = false) (h1 : val xs ≤ 9223372036854775807) :
    Calls Tryd.prog 15 #[.agg #[.bool s, .slice A xs.length c]] w fun e w' => e = .returned (.tuple #[.int .i64 ((val xs : Nat) : Int), .bool true]) ∧ Below w.heap.size w w' := by
  have l1 := digs_len_le h.2.1
  obtain ⟨t1, ht1⟩ : ∃ t, (s && decide (0 < val xs)) = t := ⟨_, rfl⟩
  have TA := Lib.hid (fun W h => take_any A c s xs W h (by omega))
  have HC := Lib.hid (fun A1 c1 W h1 => small_any A1 c1 (digs (val xs)) W h1 (by omega))
  simp only [val_digs] at HC
  rw [hz] at ht1
  rw [hz] at TA
  have hs : small? (val xs) = val xs := by unfold small?; rw [if_pos (by omega)]
  have hd : decide (val xs < 18446744073709551616) = true := decide_eq_true (by omega)
  rw [hs, hd] at HC
  have dd : decide (((val xs : Nat) : Int) ≤ 9223372036854775807) = true := by simp; omega
  have HT := Lib.hid (wrap_i64_eq (val xs) (by omega) (by omega))
  clear hs hd hz
  clear ht1
  generalize val xs = x at *
  go_enter Tryd.func15, Tryd.ntmps15
  go_wp2_with fail
  refine (TA.out _ (h.below (below1 _ _))).mono ?_
  rintro e w1 ⟨A1, c1, rfl, hd, hb⟩
  have K1 := Lib.hid hb
  have G1 := Lib.hid hd
  obtain ⟨hc1, hf1⟩ := bcell hb
  clear hb hd h
  go_wp2_with fail
  refine (HC.out A1 c1 _ (G1.out.below (below1 _ _))).mono ?_
  rintro e w2 ⟨rfl, nn, rfl⟩
  go_wp2
  go_ret2
  exact ⟨rfl, below_drewN (((below1 w _).trans (K1.out.mono (by simp))).alloc (by have := K1.out.size; simp at this; omega) _) _⟩
set_option maxHeartbeats 2000000 in
set_option maxRecDepth 100000 in
theorem zsmall_far (A : Option Addr) (c : Nat) (s : Bool) (xs : List Nat) (w : World) (h : Dg w A c xs) (hl : xs.length ≤ 1000000) (h1 : 18446744073709551616 ≤ val xs) :
    Calls Tryd.prog 15 #[.agg #[.bool s, .slice A xs.length c]] w fun e w' => e = .returned (.tuple #[.int .i64 0, .bool false]) ∧ Below w.heap.size w w' := by
  have l1 := digs_len_le h.2.1
  obtain ⟨t1, ht1⟩ : ∃ t, (s && decide (0 < val xs)) = t := ⟨_, rfl⟩
  have TA := Lib.hid (fun W h => take_any A c s xs W h (by omega))
  have HC := Lib.hid (fun A1 c1 W h1 => small_any A1 c1 (digs (val xs)) W h1 (by omega))
  simp only [val_digs] at HC
  rw [ht1] at TA
  have hd : decide (val xs < 18446744073709551616) = false := decide_eq_false (by omega)
  rw [hd] at HC
  clear hd
  clear ht1
  generalize val xs = x at *
  go_enter Tryd.func15, Tryd.ntmps15
  go_wp2_with fail
  refine (TA.out _ (h.below (below1 _ _))).mono ?_
  rintro e w1 ⟨A1, c1, rfl, hd, hb⟩
  have K1 := Lib.hid hb
  have G1 := Lib.hid hd
  obtain ⟨hc1, hf1⟩ := bcell hb
  clear hb hd h
  go_wp2_with fail
  refine (HC.out A1 c1 _ (G1.out.below (below1 _ _))).mono ?_
  rintro e w2 ⟨rfl, nn, rfl⟩
  go_wp2
  go_ret2
  exact ⟨rfl, below_drewN (((below1 w _).trans (K1.out.mono (by simp))).alloc (by have := K1.out.size; simp at this; omega) _) _⟩
set_option maxHeartbeats 2000000 in
set_option maxRecDepth 100000 in
theorem zsmall_negfar (A : Option Addr) (c : Nat) (s : Bool) (xs : List Nat) (w : World) (h : Dg w A c xs) (hl : xs.length ≤ 1000000) (hz : s = true) (h0 : 9223372036854775808 < val xs) (h1 : val xs < 18446744073709551616) :
    Calls Tryd.prog 15 #[.agg #[.bool s, .slice A xs.length c]] w fun e w' => e = .returned (.tuple #[.int .i64 0, .bool false]) ∧ Below w.heap.size w w' := by
  have l1 := digs_len_le h.2.1
  obtain ⟨t1, ht1⟩ : ∃ t, (s && decide (0 < val xs)) = t := ⟨_, rfl⟩
  have TA := Lib.hid (fun W h => take_any A c s xs W h (by omega))
  have HC := Lib.hid (fun A1 c1 W h1 => small_any A1 c1 (digs (val xs)) W h1 (by omega))
  simp only [val_digs] at HC
  have e1 : (s && decide (0 < val xs)) = true := by rw [hz, decide_eq_true (by omega)]; rfl
  rw [e1] at ht1
  rw [e1] at TA
  have hs : small? (val xs) = val xs := by unfold small?; rw [if_pos (by omega)]
  have hd : decide (val xs < 18446744073709551616) = true := decide_eq_true (by omega)
  rw [hs, hd] at HC
  have dd : decide (((val xs : Nat) : Int) ≤ 9223372036854775808) = false := by simp; omega
  clear hs hd e1 h0 h1 hz
  clear ht1
  generalize val xs = x at *
  go_enter Tryd.func15, Tryd.ntmps15
  go_wp2_with fail
  refine (TA.out _ (h.below (below1 _ _))).mono ?_
  rintro e w1 ⟨A1, c1, rfl, hd, hb⟩
  have K1 := Lib.hid hb
  have G1 := Lib.hid hd
  obtain ⟨hc1, hf1⟩ := bcell hb
  clear hb hd h
  go_wp2_with fail
  refine (HC.out A1 c1 _ (G1.out.below (below1 _ _))).mono ?_
  rintro e w2 ⟨rfl, nn, rfl⟩
  go_wp2
  go_ret2
  exact ⟨rfl, below_drewN (((below1 w _).trans (K1.out.mono (by simp))).alloc (by have := K1.out.size; simp at this; omega) _) _⟩
set_option maxHeartbeats 2000000 in
set_option maxRecDepth 100000 in
theorem zsmall_posfar (A : Option Addr) (c : Nat) (s : Bool) (xs : List Nat) (w : World) (h : Dg w A c xs) (hl : xs.length ≤ 1000000) (hz : (s && decide (0 < val xs)) = false) (h0 : 9223372036854775807 < val xs) (h1 : val xs < 18446744073709551616) :
    Calls Tryd.prog 15 #[.agg #[.bool s, .slice A xs.length c]] w fun e w' => e = .returned (.tuple #[.int .i64 0, .bool false]) ∧ Below w.heap.size w w' := by
  have l1 := digs_len_le h.2.1
  obtain ⟨t1, ht1⟩ : ∃ t, (s && decide (0 < val xs)) = t := ⟨_, rfl⟩
  have TA := Lib.hid (fun W h => take_any A c s xs W h (by omega))
  have HC := Lib.hid (fun A1 c1 W h1 => small_any A1 c1 (digs (val xs)) W h1 (by omega))
  simp only [val_digs] at HC
  rw [hz] at ht1
  rw [hz] at TA
  have hs : small? (val xs) = val xs := by unfold small?; rw [if_pos (by omega)]
  have hd : decide (val xs < 18446744073709551616) = true := decide_eq_true (by omega)
  rw [hs, hd] at HC
  have dd : decide (((val xs : Nat) : Int) ≤ 9223372036854775807) = false := by simp; omega
  clear hs hd hz
  clear ht1
  generalize val xs = x at *
  go_enter Tryd.func15, Tryd.ntmps15
  go_wp2_with fail
  refine (TA.out _ (h.below (below1 _ _))).mono ?_
  rintro e w1 ⟨A1, c1, rfl, hd, hb⟩
  have K1 := Lib.hid hb
  have G1 := Lib.hid hd
  obtain ⟨hc1, hf1⟩ := bcell hb
  clear hb hd h
  go_wp2_with fail
  refine (HC.out A1 c1 _ (G1.out.below (below1 _ _))).mono ?_
  rintro e w2 ⟨rfl, nn, rfl⟩
  go_wp2
  go_ret2
  exact ⟨rfl, below_drewN (((below1 w _).trans (K1.out.mono (by simp))).alloc (by have := K1.out.size; simp at this; omega) _) _⟩
/-- What Small answers. -/
def smallz (z : Int) : Int := if -9223372036854775808 ≤ z ∧ z ≤ 9223372036854775807 then z else 0
def smallb (z : Int) : Bool := decide (-9223372036854775808 ≤ z ∧ z ≤ 9223372036854775807)
theorem zsmall_any (A : Option Addr) (c : Nat) (s : Bool) (xs : List Nat) (w : World) (h : Dg w A c xs) (hl : xs.length ≤ 1000000) (q : Int) (ok : Bool) (hq : smallz (sg s (val xs)) = q) (hok : smallb (sg s (val xs)) = ok) :
    Calls Tryd.prog 15 #[.agg #[.bool s, .slice A xs.length c]] w fun e w' => e = .returned (.tuple #[.int .i64 q, .bool ok]) ∧ Below w.heap.size w w' := by
  subst hq hok
  rcases Nat.lt_or_ge (val xs) 18446744073709551616 with h1 | h1
  · cases ht : (s && decide (0 < val xs))
    · have e : sg s (val xs) = (val xs : Int) := by
        rw [← sg_take, ht]; rfl
      rw [e]
      rcases Nat.lt_or_ge 9223372036854775807 (val xs) with h2 | h2
      · refine (zsmall_posfar A c s xs w h hl ht h2 h1).mono fun e w' ⟨he, hb⟩ => ⟨he.trans ?_, hb⟩
        exact ret_ib (by unfold smallz; rw [if_neg (by omega)]) (by unfold smallb; exact (decide_eq_false (by omega)).symm)
      · refine (zsmall_pos A c s xs w h hl ht h2).mono fun e w' ⟨he, hb⟩ => ⟨he.trans ?_, hb⟩
        exact ret_ib (by unfold smallz; rw [if_pos (by omega)]) (by unfold smallb; exact (decide_eq_true (by omega)).symm)
    · have e : sg s (val xs) = -(val xs : Int) := by
        rw [← sg_take, ht]; rfl
      simp only [Bool.and_eq_true, decide_eq_true_eq] at ht
      rw [e]
      rcases Nat.lt_or_ge 9223372036854775808 (val xs) with h2 | h2
      · refine (zsmall_negfar A c s xs w h hl ht.1 h2 h1).mono fun e w' ⟨he, hb⟩ => ⟨he.trans ?_, hb⟩
        exact ret_ib (by unfold smallz; rw [if_neg (by omega)]) (by unfold smallb; exact (decide_eq_false (by omega)).symm)
      · refine (zsmall_neg A c s xs w h hl ht.1 ht.2 h2).mono fun e w' ⟨he, hb⟩ => ⟨he.trans ?_, hb⟩
        exact ret_ib (by unfold smallz; rw [if_pos (by omega)]) (by unfold smallb; exact (decide_eq_true (by omega)).symm)
  · have e : sg s (val xs) = (val xs : Int) ∨ sg s (val xs) = -(val xs : Int) := by unfold sg; cases s <;> simp
    refine (zsmall_far A c s xs w h hl h1).mono fun e' w' ⟨he, hb⟩ => ⟨he.trans ?_, hb⟩
    exact ret_ib (by unfold smallz; rw [if_neg (by omega)]) (by unfold smallb; exact (decide_eq_false (by omega)).symm)
end Go.Proofs.YtcciibejachjkaaDoor
end

section
/-
  A number as bytes, and back: plain words, and zint's two contracts by whole numbers.
-/
namespace Go.Proofs.YtcciibejachjkaaDoor
open Go.RowKit
set_option linter.unusedSimpArgs false
set_option linter.unusedVariables false
def zb (m : Int) : List UInt8 := zbytes (decide (m < 0)) (digs m.natAbs)
theorem zb_right (m : Int) : rightB (decide (m < 0)) (digs m.natAbs) = true := by
  by_cases h0 : m.natAbs = 0
  · obtain rfl : m = 0 := by omega
    show rightB _ (digs 0) = true
    rw [digs_zero]; rfl
  · have hl : (digs m.natAbs).length ≠ 0 := fun e => h0 (digs_nil.1 e)
    unfold rightB
    rw [if_neg hl, decide_eq_true_eq]
    have hne : (digs m.natAbs).getLast? = (digs m.natAbs)[(digs m.natAbs).length - 1]? := List.getLast?_eq_getElem?
    rcases hd : (digs m.natAbs)[(digs m.natAbs).length - 1]? with _ | d
    · rw [List.getElem?_eq_none_iff] at hd; omega
    · exact last_digs (by rw [hne, hd]; rfl)
theorem bt_right (p l : List UInt8) (j : Nat) : Bt (p ++ l) (p.length + j) = Bt l j := by
  unfold Bt
  rw [List.getElem?_append_right (by omega), Nat.add_sub_cancel_left]
theorem u4_mid (p q : List UInt8) {x k : Nat} (hx : x < 4294967296) (hk : p.length = k) : u4 (p ++ (d4 x ++ q)) k = x := by
  subst hk
  have h0 : Bt (p ++ (d4 x ++ q)) p.length = x % 256 := by
    have := bt_right p (d4 x ++ q) 0
    rw [Nat.add_zero] at this
    rw [this]; simp [Bt, d4]
  have h1 : Bt (p ++ (d4 x ++ q)) (p.length + 1) = x / 256 % 256 := by rw [bt_right]; simp [Bt, d4]
  have h2 : Bt (p ++ (d4 x ++ q)) (p.length + 2) = x / 65536 % 256 := by rw [bt_right]; simp [Bt, d4]
  have h3 : Bt (p ++ (d4 x ++ q)) (p.length + 3) = x / 16777216 % 256 := by rw [bt_right]; simp [Bt, d4]
  unfold u4
  rw [h0, h1, h2, h3]
  omega
theorem hd2_zb (s : Bool) (xs : List Nat) (r : List UInt8) (h : xs.length ≤ 16000) : hd2 (zbytes s xs ++ r) = headN s xs.length := by
  have hb : headN s xs.length < 65536 := by unfold headN; cases s <;> simp <;> omega
  unfold hd2 zbytes
  generalize headN s xs.length = H at *
  have e0 : Bt (UInt8.ofNat (H / 256) :: UInt8.ofNat H :: lay4 xs ++ r) 0 = H / 256 % 256 := by simp [Bt]
  have e1 : Bt (UInt8.ofNat (H / 256) :: UInt8.ofNat H :: lay4 xs ++ r) 1 = H % 256 := by simp [Bt]
  rw [e0, e1]
  omega
theorem lay4_split (xs : List Nat) (i : Nat) (h : i < xs.length) : lay4 xs = lay4 (xs.take i) ++ (d4 (xs[i]?.getD 0) ++ lay4 (xs.drop (i + 1))) := by
  have e : xs = xs.take i ++ (xs[i]'h :: xs.drop (i + 1)) := by rw [← List.drop_eq_getElem_cons h, List.take_append_drop]
  have e2 : xs[i]?.getD 0 = xs[i]'h := by rw [List.getElem?_eq_getElem h]; rfl
  rw [e2]
  conv => lhs; rw [e]
  unfold lay4
  rw [List.flatMap_append, List.flatMap_cons]
theorem rdn_zb (s : Bool) (xs : List Nat) (r : List UInt8) (hk : ok32 xs) : ∀ n, n ≤ xs.length → rdn (zbytes s xs ++ r) n = xs.take n
  | 0, _ => by simp [rdn]
  | n + 1, h => by
    show rdn (zbytes s xs ++ r) n ++ [u4 (zbytes s xs ++ r) (2 + 4 * n)] = _
    rw [rdn_zb s xs r hk n (by omega)]
    have hn : n < xs.length := by omega
    have hx : xs[n]?.getD 0 < 4294967296 := by rw [List.getElem?_eq_getElem hn]; exact hk _ (List.getElem_mem hn)
    have e : zbytes s xs ++ r = (UInt8.ofNat (headN s xs.length / 256) :: UInt8.ofNat (headN s xs.length) :: lay4 (xs.take n)) ++ (d4 (xs[n]?.getD 0) ++ (lay4 (xs.drop (n + 1)) ++ r)) := by
      unfold zbytes
      rw [lay4_split xs n hn]
      simp
    rw [e, u4_mid _ _ hx (by simp [lay4_len]; omega), List.getElem?_eq_getElem hn]
    simp only [Option.getD_some]
    rw [List.take_append_getElem]
theorem tk_zb (m : Int) (r : List UInt8) (h : (digs m.natAbs).length ≤ 400) : tkOk (zb m ++ r) ∧ hd2 (zb m ++ r) / 2 = (digs m.natAbs).length ∧ rdn (zb m ++ r) (hd2 (zb m ++ r) / 2) = digs m.natAbs ∧ decide (hd2 (zb m ++ r) % 2 = 1) = decide (m < 0) ∧ (zb m ++ r).drop (2 + 4 * (hd2 (zb m ++ r) / 2)) = r := by
  unfold zb
  have hh := hd2_zb (decide (m < 0)) (digs m.natAbs) r (by omega)
  have hl := zbytes_len (decide (m < 0)) (digs m.natAbs)
  have hn : hd2 (zbytes (decide (m < 0)) (digs m.natAbs) ++ r) / 2 = (digs m.natAbs).length := by rw [hh]; unfold headN; split <;> omega
  have hs : decide (hd2 (zbytes (decide (m < 0)) (digs m.natAbs) ++ r) % 2 = 1) = decide (m < 0) := by
    rw [hh]; unfold headN
    by_cases h1 : m < 0
    · rw [decide_eq_true h1, if_pos rfl, decide_eq_true_eq]; omega
    · rw [decide_eq_false h1, if_neg (by simp), decide_eq_false_iff_not]; omega
  have hr := rdn_zb (decide (m < 0)) (digs m.natAbs) r (ok_digs _) _ (Nat.le_refl _)
  rw [List.take_length] at hr
  refine ⟨⟨?_, ?_, ?_, ?_⟩, hn, ?_, hs, ?_⟩
  · rw [List.length_append]; omega
  · rw [hn]; exact h
  · rw [hn, List.length_append]; omega
  · rw [hn, hs, hr]; exact zb_right m
  · rw [hn]; exact hr
  · rw [hn, ← hl, List.drop_append_of_le_length (Nat.le_refl _), List.drop_length, List.nil_append]
theorem right_num {neg : Bool} {ds : List Nat} (hk : ok32 ds) (h : rightB neg ds = true) : ∃ m : Int, digs m.natAbs = ds ∧ decide (m < 0) = neg := by
  refine ⟨sg neg (val ds), ?_⟩
  have ha : (sg neg (val ds)).natAbs = val ds := by unfold sg; cases neg <;> simp
  rw [ha]
  have hd : digs (val ds) = ds := digs_val hk fun x hx => by
    have e : ds.getLast? = ds[ds.length - 1]? := List.getLast?_eq_getElem?
    rw [e] at hx
    have hl : ds.length ≠ 0 := fun h0 => by rw [List.getElem?_eq_none (by omega)] at hx; cases hx
    unfold rightB at h
    rw [if_neg hl, decide_eq_true_eq, hx] at h
    exact h
  refine ⟨hd, ?_⟩
  by_cases hl : ds.length = 0
  · unfold rightB at h
    rw [if_pos hl] at h
    have : neg = false := by simpa using h
    subst this
    unfold sg; simp
  · have h0 : val ds ≠ 0 := fun e => by rw [e, digs_zero] at hd; rw [← hd] at hl; exact hl rfl
    unfold sg
    cases neg
    · simp
    · simp; omega
theorem tk_inv {l : List UInt8} (h : tkOk l) : ∃ m r, (digs m.natAbs).length ≤ 400 ∧ l = zb m ++ r := by
  obtain ⟨h2, h4, h5, h6⟩ := h
  obtain ⟨m, e1, e2⟩ := right_num (rdn_ok l _) h6
  refine ⟨m, l.drop (2 + 4 * (hd2 l / 2)), by rw [e1, rdn_len]; exact h4, ?_⟩
  unfold zb
  rw [e1, e2, zb_take rfl rfl h5, List.take_append_drop]
/-- What zint.Take answers. -/
def Zt (m : Int) (t : ByteArray) (k : Int) (w : World) (e : Ending) (w' : World) : Prop := ∃ A c, e = .returned (.tuple #[.agg #[.bool (decide (m < 0)), .slice A (digs m.natAbs).length c], .string t, .int .i64 k]) ∧ Dg w' A c (digs m.natAbs) ∧ Below w.heap.size w w'
theorem bytes_of {t : ByteArray} {l : List UInt8} (h : t.data.toList = l) : (⟨l.toArray⟩ : ByteArray) = t := by subst h; rfl
theorem ztk_yes {b t : ByteArray} {m : Int} (hb : b.data.toList = zb m ++ t.data.toList) (hl : (digs m.natAbs).length ≤ 400) (hm : b.data.toList.length ≤ 9223372036854775807) (w : World) :
    Calls Tryd.prog 7 #[.string b] w fun e w' => Zt m t 0 w e w' := by
  have hk := tk_zb m t.data.toList hl
  rw [← hb] at hk
  obtain ⟨k1, k2, k3, k4, k5⟩ := hk
  refine (ztake_any b w _ rfl hm).mono ?_
  rintro e w' ⟨hB, _, h5⟩
  obtain ⟨A, c, he, hd⟩ := h5 k1
  rw [k3] at hd
  rw [k4, k5, k2] at he
  exact ⟨A, c, he, hd, hB⟩
theorem ztk_no {b : ByteArray} (hm : b.data.toList.length ≤ 9223372036854775807) (h : ¬ ∃ m r, (digs m.natAbs).length ≤ 400 ∧ b.data.toList = zb m ++ r) (w : World) :
    Calls Tryd.prog 7 #[.string b] w fun e w' => Zt 0 ⟨#[]⟩ 2 w e w' := by
  refine (ztake_any b w _ rfl hm).mono ?_
  rintro e w' ⟨hB, h4, _⟩
  refine ⟨none, 0, ?_, ?_, hB⟩
  · rw [h4 (fun hk => h (tk_inv hk))]
    show _ = Ending.returned (.tuple #[.agg #[.bool false, .slice none (digs 0).length 0], .string ⟨#[]⟩, .int .i64 2])
    rw [digs_zero]; rfl
  · show Dg w' none 0 (digs 0)
    rw [digs_zero]; exact Dg.nil_ _ _
theorem zby_yes {A : Option Addr} {c : Nat} {m : Int} {t : ByteArray} (hl : (digs m.natAbs).length ≤ 400) (ht : t.data.toList = zb m) (w : World) (h : Dg w A c (digs m.natAbs)) :
    Calls Tryd.prog 6 #[.agg #[.bool (decide (m < 0)), .slice A (digs m.natAbs).length c]] w fun e w' => e = .returned (.tuple #[.string t, .int .i64 0]) ∧ Below w.heap.size w w' := by
  have := zbytes_any A c (decide (m < 0)) (digs m.natAbs) w h hl (zb_right m)
  have e : (⟨(zbytes (decide (m < 0)) (digs m.natAbs)).toArray⟩ : ByteArray) = t := bytes_of ht
  rw [e] at this; exact this
theorem zsm_yes {A : Option Addr} {c : Nat} {m q : Int} {ok : Bool} (hl : (digs m.natAbs).length ≤ 1000000) (hq : smallz m = q) (hok : smallb m = ok) (w : World) (h : Dg w A c (digs m.natAbs)) :
    Calls Tryd.prog 15 #[.agg #[.bool (decide (m < 0)), .slice A (digs m.natAbs).length c]] w fun e w' => e = .returned (.tuple #[.int .i64 q, .bool ok]) ∧ Below w.heap.size w w' :=
  zsmall_any A c (decide (m < 0)) (digs m.natAbs) w h hl q ok (by rw [sg_dz]; exact hq) (by rw [sg_dz]; exact hok)
end Go.Proofs.YtcciibejachjkaaDoor
end

section
/-
  Decimal digits, read by tens: plain words.
-/
namespace Go.Proofs.YtcciibejachjkaaDoor
open Go.RowKit
/-- What a row of decimal digits reads as. -/
def tens (l : List UInt8) : Nat := l.foldl (fun n d => n * 10 + (d.toNat - 48)) 0
theorem tens_snoc (l : List UInt8) (d : UInt8) : tens (l ++ [d]) = tens l * 10 + (d.toNat - 48) := by
  unfold tens; rw [List.foldl_append]; rfl
theorem tens_take {l : List UInt8} {i : Nat} (h : i < l.length) : tens (l.take (i + 1)) = tens (l.take i) * 10 + (Bt l i - 48) := by
  rw [← List.take_append_getElem h, tens_snoc]
  unfold Bt
  rw [List.getElem?_eq_getElem h]; rfl
theorem dd_small {n : Nat} (h : n < 10) : Lib.decDigits n = [UInt8.ofNat (48 + n)] := by rw [Lib.decDigits, dif_pos h]
theorem dd_big {n : Nat} (h : ¬ n < 10) : Lib.decDigits n = Lib.decDigits (n / 10) ++ [UInt8.ofNat (48 + n % 10)] := by rw [Lib.decDigits, dif_neg h]
theorem dd_len (n : Nat) : 0 < (Lib.decDigits n).length := by
  by_cases h : n < 10
  · rw [dd_small h]; simp
  · rw [dd_big h]; simp
theorem digit_nat {k : Nat} (h : k < 10) : (UInt8.ofNat (48 + k)).toNat = 48 + k := by
  rw [UInt8.toNat_ofNat']; omega
theorem tens_dec (n : Nat) : tens (Lib.decDigits n) = n := by
  induction n using Nat.strongRecOn with
  | ind n ih =>
    by_cases h : n < 10
    · rw [dd_small h]
      show 0 * 10 + ((UInt8.ofNat (48 + n)).toNat - 48) = n
      rw [digit_nat h]; omega
    · rw [dd_big h, tens_snoc, ih _ (by omega), digit_nat (by omega)]; omega
theorem dd_digit (n : Nat) : ∀ d ∈ Lib.decDigits n, 48 ≤ d.toNat ∧ d.toNat ≤ 57 := by
  induction n using Nat.strongRecOn with
  | ind n ih =>
    intro d hd
    by_cases h : n < 10
    · rw [dd_small h] at hd
      rw [List.mem_singleton] at hd
      subst hd
      rw [digit_nat h]; omega
    · rw [dd_big h, List.mem_append] at hd
      rcases hd with hd | hd
      · exact ih _ (by omega) d hd
      · rw [List.mem_singleton] at hd
        subst hd
        rw [digit_nat (Nat.mod_lt _ (by omega))]; omega
theorem dd_bt {n i : Nat} (h : i < (Lib.decDigits n).length) : 48 ≤ Bt (Lib.decDigits n) i ∧ Bt (Lib.decDigits n) i ≤ 57 := by
  unfold Bt
  rw [List.getElem?_eq_getElem h]
  exact dd_digit n _ (List.getElem_mem h)
theorem bt_left (p l : List UInt8) {i : Nat} (h : i < p.length) : Bt (p ++ l) i = Bt p i := by
  unfold Bt; rw [List.getElem?_append_left h]
/-- The first digit is no 0, unless the number is 0. -/
theorem dd_head (n : Nat) (h0 : n ≠ 0) : Bt (Lib.decDigits n) 0 ≠ 48 := by
  induction n using Nat.strongRecOn with
  | ind n ih =>
    by_cases h : n < 10
    · rw [dd_small h]
      show (UInt8.ofNat (48 + n)).toNat ≠ 48
      rw [digit_nat h]; omega
    · rw [dd_big h, bt_left _ _ (dd_len _)]
      exact ih _ (by omega) (by omega)
theorem dd_one {n : Nat} (h0 : n = 0) : Lib.decDigits n = [48] := by subst h0; rw [dd_small (by omega)]; rfl
/-- What is read stays below the number. -/
theorem tens_le (l : List UInt8) (i : Nat) : tens (l.take i) ≤ tens l := by
  by_cases h : i < l.length
  · have := tens_le l (i + 1)
    rw [tens_take h] at this
    omega
  · rw [List.take_of_length_le (by omega)]; exact Nat.le_refl _
termination_by l.length - i
end Go.Proofs.YtcciibejachjkaaDoor
end

section
/-
  Results that lie in blocks of the call's own: clone, Trim, divDigit, DivMod by one digit.
-/
namespace Go.Proofs.YtcciibejachjkaaDoor
open Go.RowKit
theorem Fr.mono {B C : Nat} {A : Option Addr} (h : Fr C A) (hl : B ≤ C) : Fr B A := fun b o e => Nat.le_trans hl (h b o e)
set_option maxHeartbeats 1000000 in
set_option maxRecDepth 100000 in
theorem clone_f (A : Option Addr) (c : Nat) (xs : List Nat) (w : World) (h : Dg w A c xs) (hl : xs.length ≤ 16777216) :
    Calls Tryd.prog 33 #[.slice A xs.length c] w fun e w' => ∃ A' c', e = .returned (.slice A' xs.length c') ∧ Dg w' A' c' xs ∧ Below w.heap.size w w' ∧ Fr w.heap.size A' := by
  obtain ⟨i0, hi, hz0, hz1, hz2⟩ := info_parts elem_info
  have q22 : ∀ (w : World) (a : Option Addr) (n c n' c' : Nat), (binOp .eql 22 (.slice a n c) (.slice none n' c')).run Tryd.prog w = .ok (.bool a.isNone) w := fun w a n c n' c' => Lib.run_eql_slice_nil w _ _ a n c n' c' Tryd.underlying22
  rcases A with _ | A
  · have h0 : xs = [] := by
      rcases Nat.eq_zero_or_pos xs.length with h0 | h0
      · exact List.eq_nil_of_length_eq_zero h0
      · obtain ⟨b, off, e, _⟩ := h.2.2 h0
        cases e
    subst h0
    go_enter Tryd.func33, Tryd.ntmps33
    go_wp2
    go_ret
    exact ⟨none, 0, rfl, Dg.nil_ _ _, Below.refl _ _, fr_none _⟩
  · have H := Lib.hid h
    have hc : xs.length = (cells xs).length := by simp [cells]
    have HC := Lib.hid hc
    clear h hc
    go_enter Tryd.func33, Tryd.ntmps33
    go_wp2_with (at_builtin; refine wpList_append_own _ rfl _ _ 22 rfl w.heap.size 51 i0 (.int .u32 0) 1 4 Tryd.underlying22 hi hz0 hz1 hz2 rfl (by decide) _ _ _ rfl (World.ownsRow_made w #[] 0 (Nat.le_refl _) (Nat.zero_le _) rfl) A xs.length c (cells xs) rfl ?qc1 ?qc2 ?qc3 ?qc4 ?qc5 ?qc6 ?_)
    case qc1 => have := HC.out; omega
    case qc2 =>
      intro j u hj
      obtain ⟨hlt, _⟩ := cells_get hj
      have hold := dg_cell H.out hj
      obtain ⟨b, off, e, hb, _⟩ := H.out.2.2 (by omega)
      injection e with e
      subst e
      rw [← hold]
      exact World.cell?_alloc_lt w _ _ (by rw [Addr.add_lit]; exact hb)
    case qc3 => intro u hu; unfold cells at hu; obtain ⟨x, _, rfl⟩ := List.mem_map.1 hu; rfl
    case qc4 => unfold maxLen; omega
    case qc5 => omega
    case qc6 => simp
    intro v' w1 hown hgrow hnil
    try simp only [Nat.zero_add, List.nil_append] at hown
    obtain ⟨A', c', hv, hd, hfr⟩ := dg_of_own_f hown H.out.2.1
    have HFR := Lib.hid hfr
    clear hfr
    have HV := Lib.hid hv
    clear hv hown
    go_wp2
    go_ret
    refine ⟨A', c', by rw [← HV.out]; rfl, hd, ?_, HFR.out⟩
    exact ((Below.refl _ w).alloc (Nat.le_refl _) _).grown hgrow (by simp) (by intro k hk; simp [Value.ownBlock] at hk; omega)
set_option maxHeartbeats 1000000 in
set_option maxRecDepth 100000 in
theorem trim_f (A : Option Addr) (c : Nat) (xs : List Nat) (w : World) (h : Dg w A c xs) (hl : xs.length ≤ 16777216) :
    Calls Tryd.prog 16 #[.slice A xs.length c] w fun e w' => ∃ A' c', e = .returned (.slice A' (digs (val xs)).length c') ∧ Dg w' A' c' (digs (val xs)) ∧ Below w.heap.size w w' ∧ Fr w.heap.size A' := by
  have hd := digs_len_le h.2.1
  have H := Lib.hid h
  clear h
  go_enter Tryd.func16, Tryd.ntmps16
  go_wp2_with fail
  refine (short_any A c xs _ H.out hl).mono ?_
  rintro e w' ⟨A1, c1, rfl, h1, rfl⟩
  have H1 := Lib.hid h1
  clear h1
  go_wp2_with fail
  refine (clone_f A1 c1 _ _ H1.out (by omega)).mono ?_
  rintro e w' ⟨A2, c2, rfl, h2, hb, hfr⟩
  have HFR := Lib.hid hfr
  clear hfr
  have H2 := Lib.hid h2
  clear h2
  go_wp2
  go_ret
  exact ⟨A2, c2, rfl, H2.out, hb, HFR.out⟩
section
variable {w0 w w' : World} {L : List (Option Addr × Nat × List Nat)} {A : Option Addr} {c n : Nat} {xs : List Nat} {x : Nat}
theorem trim_fl (hL : Live w0 w L) (h1 : (A, c, xs) ∈ L) (hn : n = xs.length) (hx : val xs = x) (b1 : xs.length ≤ 1048576) :
    Calls Tryd.prog 16 #[.slice A n c] w fun e w' => ∃ A' c', e = .returned (.slice A' (digs x).length c') ∧ Live w0 w' ((A', c', digs x) :: L) ∧ Fr w.heap.size A' := by
  subst hn hx
  exact (trim_f A c xs w (hL.get h1) (by omega)).mono fun e w' ⟨A', c', he, hd, hb, hf⟩ => ⟨A', c', he, (hL.step hb).add hd, hf⟩
end
set_option maxHeartbeats 2000000 in
set_option maxRecDepth 100000 in
theorem divdigit_f (A : Option Addr) (c d : Nat) (xs : List Nat) (w : World) (h : Dg w A c xs) (hl : xs.length ≤ 1048576) (hd0 : 0 < d) (hd : d < 4294967296) :
    Calls Tryd.prog 36 #[.slice A xs.length c, .int .u32 d] w fun e w' => ∃ A' c' B' d', e = .returned (.tuple #[.slice A' (digs (val xs / d)).length c', .slice B' (digs (val xs % d)).length d']) ∧ Dg w' A' c' (digs (val xs / d)) ∧ Dg w' B' d' (digs (val xs % d)) ∧ Below w.heap.size w w' ∧ Fr w.heap.size A' := by
  have H := Lib.hid h
  clear h
  have hmk := run_make_row' (P := Tryd.prog) 22 51 (.int .u32 0) 4 Tryd.underlying22 elem_info rfl .i64 .i64 xs.length (by omega) (by omega)
  go_enter Tryd.func36, Tryd.ntmps36
  go_wp2
  go_loopw [6, 7] (fun rv i wr => ∃ (k r : Nat) (z : Int) (zs : List Nat), k ≤ xs.length ∧ i = .int .i64 z ∧ z = (k : Int) - 1 ∧ rv = .int .u32 r ∧ r < d ∧ Row wr w.heap.size zs ∧ Hid (zs.length = xs.length) ∧ ok32 zs ∧
    Hid (val (xs.drop k) = val (zs.drop k) * d + r) ∧ Below w.heap.size w wr) (fun _ i _ => (intOf i + 1).toNat)
  case atStart => exact ⟨xs.length, 0, (xs.length : Int) - 1, List.replicate xs.length 0, Nat.le_refl _, rfl, rfl, rfl, hd0, Row.made _ _, by simp [Hid], ok_zeros _, by simp [Hid, val], (Below.refl _ _).alloc (Nat.le_refl _) _⟩
  case round =>
    obtain ⟨k, r, z, zs, hk, rfl, hz, rfl, hr, hrow, HL, hok, HE, hbel⟩ := hrel
    rcases k with _ | k
    · obtain rfl : z = -1 := by omega
      clear hz hk
      have HV : Hid (val xs / d = val zs ∧ val xs % d = r) := by
        have e := HE.out
        rw [List.drop_zero, List.drop_zero] at e
        rw [e, Nat.mul_comm, Nat.mul_add_div hd0, Nat.mul_add_mod, Nat.div_eq_of_lt hr, Nat.mod_eq_of_lt hr]
        exact ⟨Nat.add_zero _, rfl⟩
      have L0 := Lib.hid ((live_start wr).add (hrow.dg hok (c := xs.length) (by have := HL.out; omega)))
      have hl' := HL.out
      go_wp2_with fail
      refine Calls.mono (trim_fl (xs := zs) (x := val xs / d) L0.out (by simp) hl'.symm (by rw [HV.out.1]) (by omega)) ?_
      rintro e w2 ⟨A2, c2, rfl, h2, hfr⟩
      have L2 := Lib.hid h2
      have HFR := Lib.hid (hfr.mono hbel.size)
      clear h2 hfr
      have hr64 : r < 18446744073709551616 := by omega
      go_wp2_with fail
      refine Calls.mono (from_l L2.out (i := (r : Int)) (k := r) rfl hr64) ?_
      rintro e w3 ⟨A3, c3, rfl, h3⟩
      have L3 := Lib.hid h3
      clear h3
      go_wp2
      go_ret2
      rw [HV.out.2]
      exact ⟨A2, c2, A3, c3, rfl, L3.out.get (by simp), L3.out.get (by simp), hbel.trans (L3.out.1.mono hbel.size), HFR.out⟩
    · obtain rfl : z = (k : Int) := by omega
      clear hz
      obtain ⟨b, o, hA, hbk, hcx⟩ := H.out.2.2 (by omega)
      have hy := (hbel.cell (p := ⟨b, o + k, none⟩) hbk).trans (hcx k (by omega))
      have hY := getD_lt H.out.2.1 k
      have hcell := hrow.cell (i := k) (by have := HL.out; omega)
      have hfr := hrow.frozen k
      have hki : (k : Int) < (xs.length : Int) := by omega
      have hki' : k < xs.length := by omega
      generalize ey : xs[k]?.getD 0 = y at *
      have HY := Lib.hid ey
      clear ey hcx
      subst hA
      go_wp2_with fail
      refine (div32_any r y d _ hr hY hd).mono ?_
      rintro e w' ⟨rfl, n, rfl⟩
      obtain ⟨q, hq⟩ : ∃ q : Nat, (y + 4294967296 * r) / d = q := ⟨_, rfl⟩
      obtain ⟨r', hr'⟩ : ∃ r' : Nat, (y + 4294967296 * r) % d = r' := ⟨_, rfl⟩
      have bq : q < 4294967296 := by rw [← hq, Nat.div_lt_iff_lt_mul hd0]; have := Nat.mul_le_mul_left 4294967296 hr; omega
      have br : r' < d := by rw [← hr']; exact Nat.mod_lt _ hd0
      rw [hq, hr']
      have HQ := Lib.hid hq
      have HR := Lib.hid hr'
      clear hq hr'
      go_wp2
      go_roundw
      case rel =>
        have hl' := HL.out
        exact ⟨k, r', (k : Int) - 1, zs.set k q, by omega, rfl, rfl, rfl, br, (hrow.drewN n).set_ _ _, by simp only [List.length_set]; exact HL, ok_set hok bq _, digit_step hki' (by omega) HE.out (by rw [HY.out]; exact HQ.out) (by rw [HY.out]; exact HR.out), (below_drewN hbel n).setCell (by simp) _⟩
      case measure => simp [intOf]
set_option maxHeartbeats 4000000 in
set_option maxRecDepth 100000 in
theorem divmod_f (A B : Option Addr) (c d : Nat) (xs ys : List Nat) (w : World) (h : Dg w A c xs) (h' : Dg w B d ys) (hl : xs.length ≤ 1000000) (hl' : ys.length ≤ 1000000) (hy : val ys ≠ 0) (h1 : (digs (val ys)).length = 1) :
    Calls Tryd.prog 22 #[.slice A xs.length c, .slice B ys.length d] w fun e w' => ∃ A' c' B' d', e = .returned (.tuple #[.slice A' (digs (val xs / val ys)).length c', .slice B' (digs (val xs % val ys)).length d', .bool true]) ∧ Dg w' A' c' (digs (val xs / val ys)) ∧ Dg w' B' d' (digs (val xs % val ys)) ∧ Below w.heap.size w w' ∧ Fr w.heap.size A' := by
  have L0 := Lib.hid (((live_start w).add h).add h')
  have l1 := digs_len_le h.2.1
  have l2 := digs_len_le h'.2.1
  have y0 : 0 < (digs (val ys)).length := by
    rcases Nat.eq_zero_or_pos (digs (val ys)).length with h0 | h0
    · exact absurd (digs_nil.1 h0) hy
    · exact h0
  have t0 : (((digs (val ys)).length : Int) == 0) = false := beq_eq_false_iff_ne.2 (by omega)
  have HY := Lib.hid hy
  have H1 := Lib.hid h1
  clear h h' hy h1
  go_enter Tryd.func22, Tryd.ntmps22
  go_wp2_with fail
  refine Calls.mono (trim_l (xs := xs) (x := val xs) L0.out (by simp) rfl rfl (by omega)) ?_
  rintro e w1 ⟨A1, c1, rfl, h1⟩
  have L1 := Lib.hid h1
  clear h1
  go_wp2_with fail
  refine Calls.mono (trim_l (xs := ys) (x := val ys) L1.out (by simp) rfl rfl (by omega)) ?_
  rintro e w2 ⟨A2, c2, rfl, h1⟩
  have L2 := Lib.hid h1
  clear h1
  have vx := Lib.hid (val_digs (val xs))
  have vy := Lib.hid (val_digs (val ys))
  obtain ⟨q, hq⟩ : ∃ q : Int, cmpi (val xs) (val ys) = q := ⟨_, rfl⟩
  have HC := Lib.hid hq
  go_wp2_with fail
  refine Calls.mono (cmp_l (xs := digs (val xs)) (ys := digs (val ys)) (x := val xs) (y := val ys) L2.out (by simp) (by simp) rfl rfl vx.out vy.out (by omega) (by omega) HC.out) ?_
  rintro e w3 ⟨rfl, h1⟩
  have L3 := Lib.hid h1
  clear h1
  rcases Nat.lt_or_ge (val xs) (val ys) with hlt | hge
  · have d0 : decide (q < 0) = true := by rw [← hq, cmpi_lt hlt]; rfl
    have e0 : val xs / val ys = 0 := Nat.div_eq_of_lt hlt
    have e1 : val xs % val ys = val xs := Nat.mod_eq_of_lt hlt
    have E0 := Lib.hid e0
    have E1 := Lib.hid e1
    clear e0 e1 hlt hq
    go_wp2
    go_ret3
    rw [E0.out, E1.out, digs_zero]
    exact ⟨none, 0, A1, c1, rfl, Dg.nil_ _ _, L3.out.get (by simp), L3.out.1, fr_none _⟩
  · have d0 : decide (q < 0) = false := by
      rw [← hq]
      rcases Nat.eq_or_lt_of_le hge with e | e
      · rw [cmpi_eq e.symm]; rfl
      · rw [cmpi_gt e]; rfl
    have hle := Lib.hid (digs_len_mono _ _ hge)
    clear hq
    have h1 := H1.out
    have t1 : (((digs (val ys)).length : Int) == 1) = true := by rw [h1]; rfl
    have hY : Dg w3 A2 c2 (digs (val ys)) := L3.out.get (by simp)
    obtain ⟨b, off, hB, hb, hcy⟩ := hY.2.2 y0
    have hc0 := hcy 0 y0
    rw [Nat.add_zero] at hc0
    have e2 : val ys = (digs (val ys))[0]?.getD 0 := by
      rcases hd : digs (val ys) with _ | ⟨z, _ | ⟨z', r⟩⟩
      · rw [hd] at h1; simp at h1
      · have := vy.out; rw [hd] at this; simp only [val] at this; simp; omega
      · rw [hd] at h1; simp at h1
    have b2 : val ys < 4294967296 := by rw [e2]; exact getD_lt (ok_digs _) 0
    rw [← e2] at hc0
    have HG := Lib.hid (divdigit_f A1 c1 (val ys) (digs (val xs)) w3 (L3.out.get (by simp)) (by omega) (by have := HY.out; omega) b2)
    rw [vx.out] at HG
    subst hB
    clear hY hcy e2 h1 hge
    go_wp2_with fail
    refine HG.out.mono ?_
    rintro e w4 ⟨A4, c4, A5, c5, rfl, g4, g5, hb5, hfr⟩
    have HFR := Lib.hid (hfr.mono L3.out.1.size)
    clear hfr
    have G4 := Lib.hid g4
    have G5 := Lib.hid g5
    have HB := Lib.hid (L3.out.step hb5)
    clear g4 g5 hb5
    go_wp2
    go_ret3
    exact ⟨A4, c4, A5, c5, rfl, G4.out, G5.out, HB.out.1, HFR.out⟩
end Go.Proofs.YtcciibejachjkaaDoor
end

section
/-
  DERIVED: THE SHELF's CONTRACTS AT THIS DUMP, IN PLAIN WORDS (tools/lay-plain.mjs out of the shelf's text): THE SAME DECLARATIONS UNDER THE SAME NAMES: 'import', 'namespace', 'open', 'def', 'theorem' AND NOTHING ELSE: no command of the shelf's: FOR A HAND-IN. Each laying: the table of numbers ('.._ren') and one theorem, a field a fact of the dump's own or the kernel's comparison; each contract: ONE APPLICATION.
-/
namespace Go.Proofs
open Go.Shelf
def Tryd.lays170_ren : Go.Shelf.Ren := ⟨fun | 170 => 43 | n => n, fun | 70 => 74 | 3 => 3 | 0 => 0 | 72 => 76 | 37 => 48 | 5 => 5 | n => n, fun | n => n⟩
theorem Tryd.lays170 : Go.Proofs.Lays.n170 Tryd.prog Tryd.lays170_ren := {
  mixed := by kernel_rfl
  f170 := Tryd.func43.trans (congrArg some (by kernel_rfl))
  t0 := Tryd.underlying0
  a0 := Tryd.isAgg0
  z0 := Tryd.sizeOf0
  v0 := Tryd.zeroValue0
  t3 := Tryd.underlying3
  a3 := Tryd.isAgg3
  z3 := Tryd.sizeOf3
  v3 := Tryd.zeroValue3
  t37 := Tryd.underlying48
  a37 := Tryd.isAgg48
  z37 := Tryd.sizeOf48
  v37 := Tryd.zeroValue48
  t70 := Tryd.underlying74
  a70 := Tryd.isAgg74
  z70 := Tryd.sizeOf74
  v70 := Tryd.zeroValue74
  t72 := Tryd.underlying76
  a72 := Tryd.isAgg76
  z72 := Tryd.sizeOf76
  v72 := Tryd.zeroValue76 }
open Go.RowKit in
/-- (*strings.Builder).Len: "Len returns the number of accumulated bytes; b.Len() == len(b.String()).": the world is as it was. (LAID: no walk: one application.) -/
theorem Tryd.Builder_Len (B b : Nat) (bs : List Value) (w : World) (h : Lib.IsBuilder 76 5 B b bs w) :
    Calls Tryd.prog 43 #[.pointer (some ⟨b, 0, none⟩)] w fun e w' => e = .returned (.int .i64 bs.length) ∧ w' = w := Any.Builder_Len Tryd.lays170 B b bs w h
def Tryd.lays169_ren : Go.Shelf.Ren := ⟨fun | 169 => 44 | n => n, fun | 70 => 74 | 9 => 9 | 0 => 0 | 72 => 76 | 37 => 48 | 127 => 106 | 3 => 3 | 5 => 5 | n => n, fun | n => n⟩
theorem Tryd.lays169 : Go.Proofs.Lays.n169 Tryd.prog Tryd.lays169_ren := {
  mixed := by kernel_rfl
  f169 := Tryd.func44.trans (congrArg some (by kernel_rfl))
  t0 := Tryd.underlying0
  a0 := Tryd.isAgg0
  z0 := Tryd.sizeOf0
  v0 := Tryd.zeroValue0
  t3 := Tryd.underlying3
  a3 := Tryd.isAgg3
  z3 := Tryd.sizeOf3
  v3 := Tryd.zeroValue3
  t9 := Tryd.underlying9
  a9 := Tryd.isAgg9
  z9 := Tryd.sizeOf9
  v9 := Tryd.zeroValue9
  t37 := Tryd.underlying48
  a37 := Tryd.isAgg48
  z37 := Tryd.sizeOf48
  v37 := Tryd.zeroValue48
  t70 := Tryd.underlying74
  a70 := Tryd.isAgg74
  z70 := Tryd.sizeOf74
  v70 := Tryd.zeroValue74
  t72 := Tryd.underlying76
  a72 := Tryd.isAgg76
  z72 := Tryd.sizeOf76
  v72 := Tryd.zeroValue76
  t127 := Tryd.underlying106
  a127 := Tryd.isAgg106
  z127 := Tryd.sizeOf106
  v127 := Tryd.zeroValue106 }
theorem Tryd.Builder_Extra_169 : Builder.Extra Tryd.prog Tryd.lays169_ren := {
  sizeBuilder := by kernel_rfl
  liesBuilder := by kernel_rfl
  t5 := Tryd.underlying5
  a5 := Tryd.isAgg5
  z5 := Tryd.sizeOf5
  v5 := Tryd.zeroValue5
  infoByte := by kernel_rfl
  cellsByte := by kernel_rfl
  sizeByte := by kernel_rfl
  neB5 := by decide }
open Go.RowKit in
/-- (*strings.Builder).String: "String returns the accumulated string.": OF A BUILDER THAT HOLDS AT LEAST ONE BYTE. ✋ THE MODEL FREEZES THOSE BYTES IN THE BUFFER (unsafe.String): a later write INTO them ends the model's run without an answer; a later append BEHIND them goes on. The statement's order of evaluation is drawn: one draw. (LAID: no walk: one application.) -/
theorem Tryd.Builder_String (B b : Nat) (l : List UInt8) (w : World) (h : Lib.IsBuilder 76 5 B b (Lib.byteCells l) w) (h0 : l ≠ []) :
    Calls Tryd.prog 44 #[.pointer (some ⟨b, 0, none⟩)] w fun e w' => e = .returned (.string ⟨l.toArray⟩) ∧ Below B w w' := Any.Builder_String Tryd.lays169 Tryd.Builder_Extra_169 B b l w h h0
open Go.RowKit in
/-- (*strings.Builder).String OF A BUILDER THAT HOLDS NO BYTE: the empty string. (Its buffer is nil, or a row of which it has taken nothing yet; where that row has NO capacity the model lays one new block for unsafe.SliceData's 'some address'.) One draw. (LAID: no walk: one application.) -/
theorem Tryd.Builder_String_empty (B b : Nat) (w : World) (h : Lib.IsBuilder 76 5 B b [] w) (hBw : B ≤ w.heap.size) :
    Calls Tryd.prog 44 #[.pointer (some ⟨b, 0, none⟩)] w fun e w' => e = .returned (.string ⟨#[]⟩) ∧ Below B w w' := Any.Builder_String_empty Tryd.lays169 Tryd.Builder_Extra_169 B b w h hBw
open Go.RowKit in
/-- (*strings.Builder).String: "String returns the accumulated string.": WHATEVER THE BUILDER HOLDS. (LAID: no walk: one application.) -/
theorem Tryd.Builder_String_any (B b : Nat) (l : List UInt8) (w : World) (h : Lib.IsBuilder 76 5 B b (Lib.byteCells l) w) (hBw : B ≤ w.heap.size) :
    Calls Tryd.prog 44 #[.pointer (some ⟨b, 0, none⟩)] w fun e w' => e = .returned (.string ⟨l.toArray⟩) ∧ Below B w w' := Any.Builder_String_any Tryd.lays169 Tryd.Builder_Extra_169 B b l w h hBw
def Tryd.lays241_ren : Go.Shelf.Ren := ⟨fun | 241 => 65 | 277 => 77 | n => n, fun | 70 => 74 | 3 => 3 | 0 => 0 | 72 => 76 | 37 => 48 | 5 => 5 | n => n, fun | n => n⟩
theorem Tryd.lays241 : Go.Proofs.Lays.n241 Tryd.prog Tryd.lays241_ren := {
  mixed := by kernel_rfl
  f241 := Tryd.func65.trans (congrArg some (by kernel_rfl))
  f277 := Tryd.func77.trans (congrArg some (by kernel_rfl))
  t0 := Tryd.underlying0
  a0 := Tryd.isAgg0
  z0 := Tryd.sizeOf0
  v0 := Tryd.zeroValue0
  t3 := Tryd.underlying3
  a3 := Tryd.isAgg3
  z3 := Tryd.sizeOf3
  v3 := Tryd.zeroValue3
  t37 := Tryd.underlying48
  a37 := Tryd.isAgg48
  z37 := Tryd.sizeOf48
  v37 := Tryd.zeroValue48
  t70 := Tryd.underlying74
  a70 := Tryd.isAgg74
  z70 := Tryd.sizeOf74
  v70 := Tryd.zeroValue74
  t72 := Tryd.underlying76
  a72 := Tryd.isAgg76
  z72 := Tryd.sizeOf76
  v72 := Tryd.zeroValue76 }
theorem Tryd.Builder_Extra_241 : Builder.Extra Tryd.prog Tryd.lays241_ren := {
  sizeBuilder := by kernel_rfl
  liesBuilder := by kernel_rfl
  t5 := Tryd.underlying5
  a5 := Tryd.isAgg5
  z5 := Tryd.sizeOf5
  v5 := Tryd.zeroValue5
  infoByte := by kernel_rfl
  cellsByte := by kernel_rfl
  sizeByte := by kernel_rfl
  neB5 := by decide }
open Go.RowKit in
/-- (*strings.Builder).grow (no doc but "grow copies the buffer to a new, larger buffer so that there are at least n bytes of capacity beyond len(b.buf)."): AT A BUILDER WITHOUT A BUFFER: a new row of whatever bytes for its buffer, none of them its own yet. Three draws. (LAID: no walk: one application.) -/
theorem Tryd.Builder_grow_fresh (B b n : Nat) (w : World) (hB : B ≤ b) (hbk : w.heap[b]? = some (.cells #[.pointer (some ⟨b, 0, none⟩), .slice none 0 0] 76 (0, 0))) (hBw : B ≤ w.heap.size) (hn : n ≤ 281474976710656) :
    Calls Tryd.prog 65 #[.pointer (some ⟨b, 0, none⟩), .int .i64 n] w fun e w' => e = .returned (.tuple #[]) ∧ (Lib.BuilderAt 76 5 B b (.pointer (some ⟨b, 0, none⟩)) [] w' ∧ Below B w w') := Any.Builder_grow_fresh Tryd.lays241 Tryd.Builder_Extra_241 B b n w hB hbk hBw hn
def Tryd.lays165_ren : Go.Shelf.Ren := ⟨fun | 165 => 41 | 240 => 64 | 241 => 65 | 276 => 76 | 277 => 77 | n => n, fun | 70 => 74 | 3 => 3 | 0 => 0 | 4 => 4 | 9 => 9 | 20 => 20 | 72 => 76 | 37 => 48 | 164 => 114 | 5 => 5 | n => n, fun | n => n⟩
theorem Tryd.lays165 : Go.Proofs.Lays.n165 Tryd.prog Tryd.lays165_ren := {
  mixed := by kernel_rfl
  f165 := Tryd.func41.trans (congrArg some (by kernel_rfl))
  f240 := Tryd.func64.trans (congrArg some (by kernel_rfl))
  f241 := Tryd.func65.trans (congrArg some (by kernel_rfl))
  f276 := Tryd.func76.trans (congrArg some (by kernel_rfl))
  f277 := Tryd.func77.trans (congrArg some (by kernel_rfl))
  t0 := Tryd.underlying0
  a0 := Tryd.isAgg0
  z0 := Tryd.sizeOf0
  v0 := Tryd.zeroValue0
  t3 := Tryd.underlying3
  a3 := Tryd.isAgg3
  z3 := Tryd.sizeOf3
  v3 := Tryd.zeroValue3
  t4 := Tryd.underlying4
  a4 := Tryd.isAgg4
  z4 := Tryd.sizeOf4
  v4 := Tryd.zeroValue4
  t9 := Tryd.underlying9
  a9 := Tryd.isAgg9
  z9 := Tryd.sizeOf9
  v9 := Tryd.zeroValue9
  t20 := Tryd.underlying20
  a20 := Tryd.isAgg20
  z20 := Tryd.sizeOf20
  v20 := Tryd.zeroValue20
  t37 := Tryd.underlying48
  a37 := Tryd.isAgg48
  z37 := Tryd.sizeOf48
  v37 := Tryd.zeroValue48
  t70 := Tryd.underlying74
  a70 := Tryd.isAgg74
  z70 := Tryd.sizeOf74
  v70 := Tryd.zeroValue74
  t72 := Tryd.underlying76
  a72 := Tryd.isAgg76
  z72 := Tryd.sizeOf76
  v72 := Tryd.zeroValue76
  t164 := Tryd.underlying114
  a164 := Tryd.isAgg114
  z164 := Tryd.sizeOf114
  v164 := Tryd.zeroValue114 }
theorem Tryd.Builder_Extra_165 : Builder.Extra Tryd.prog Tryd.lays165_ren := {
  sizeBuilder := by kernel_rfl
  liesBuilder := by kernel_rfl
  t5 := Tryd.underlying5
  a5 := Tryd.isAgg5
  z5 := Tryd.sizeOf5
  v5 := Tryd.zeroValue5
  infoByte := by kernel_rfl
  cellsByte := by kernel_rfl
  sizeByte := by kernel_rfl
  neB5 := by decide }
open Go.RowKit in
/-- (*strings.Builder).Grow AT A BUILDER THAT HAS NOT BEEN WRITTEN ('var b strings.Builder; b.Grow(n)'): "Grow grows b's capacity, if necessary, to guarantee space for another n bytes.": it holds no byte behind it as before it. (LAID: no walk: one application.) -/
theorem Tryd.Builder_Grow_fresh (B b n : Nat) (w : World) (hB : B ≤ b) (hbk : w.heap[b]? = some (.cells #[.pointer none, .slice none 0 0] 76 (0, 0))) (hBw : B ≤ w.heap.size) (hn : n ≤ 281474976710656) :
    Calls Tryd.prog 41 #[.pointer (some ⟨b, 0, none⟩), .int .i64 n] w fun e w' => e = .returned (.tuple #[]) ∧ (Lib.BuilderAt 76 5 B b (.pointer (some ⟨b, 0, none⟩)) [] w' ∧ Below B w w') := Any.Builder_Grow_fresh Tryd.lays165 Tryd.Builder_Extra_165 B b n w hB hbk hBw hn
def Tryd.lays156_ren : Go.Shelf.Ren := ⟨fun | 156 => 27 | 165 => 41 | 166 => 42 | 169 => 44 | 240 => 64 | 241 => 65 | 276 => 76 | 277 => 77 | n => n, fun | 31 => 53 | 9 => 9 | 3 => 3 | 4 => 4 | 0 => 0 | 20 => 20 | 72 => 76 | 76 => 80 | 70 => 74 | 37 => 48 | 75 => 79 | 127 => 106 | 164 => 114 | 5 => 5 | 80 => 83 | n => n, fun | n => n⟩
theorem Tryd.lays156 : Go.Proofs.Lays.n156 Tryd.prog Tryd.lays156_ren := {
  mixed := by kernel_rfl
  f156 := Tryd.func27.trans (congrArg some (by kernel_rfl))
  f165 := Tryd.func41.trans (congrArg some (by kernel_rfl))
  f166 := Tryd.func42.trans (congrArg some (by kernel_rfl))
  f169 := Tryd.func44.trans (congrArg some (by kernel_rfl))
  f240 := Tryd.func64.trans (congrArg some (by kernel_rfl))
  f241 := Tryd.func65.trans (congrArg some (by kernel_rfl))
  f276 := Tryd.func76.trans (congrArg some (by kernel_rfl))
  f277 := Tryd.func77.trans (congrArg some (by kernel_rfl))
  t0 := Tryd.underlying0
  a0 := Tryd.isAgg0
  z0 := Tryd.sizeOf0
  v0 := Tryd.zeroValue0
  t3 := Tryd.underlying3
  a3 := Tryd.isAgg3
  z3 := Tryd.sizeOf3
  v3 := Tryd.zeroValue3
  t4 := Tryd.underlying4
  a4 := Tryd.isAgg4
  z4 := Tryd.sizeOf4
  v4 := Tryd.zeroValue4
  t9 := Tryd.underlying9
  a9 := Tryd.isAgg9
  z9 := Tryd.sizeOf9
  v9 := Tryd.zeroValue9
  t20 := Tryd.underlying20
  a20 := Tryd.isAgg20
  z20 := Tryd.sizeOf20
  v20 := Tryd.zeroValue20
  t31 := Tryd.underlying53
  a31 := Tryd.isAgg53
  z31 := Tryd.sizeOf53
  v31 := Tryd.zeroValue53
  t37 := Tryd.underlying48
  a37 := Tryd.isAgg48
  z37 := Tryd.sizeOf48
  v37 := Tryd.zeroValue48
  t70 := Tryd.underlying74
  a70 := Tryd.isAgg74
  z70 := Tryd.sizeOf74
  v70 := Tryd.zeroValue74
  t72 := Tryd.underlying76
  a72 := Tryd.isAgg76
  z72 := Tryd.sizeOf76
  v72 := Tryd.zeroValue76
  t75 := Tryd.underlying79
  a75 := Tryd.isAgg79
  z75 := Tryd.sizeOf79
  v75 := Tryd.zeroValue79
  t76 := Tryd.underlying80
  a76 := Tryd.isAgg80
  z76 := Tryd.sizeOf80
  v76 := Tryd.zeroValue80
  t127 := Tryd.underlying106
  a127 := Tryd.isAgg106
  z127 := Tryd.sizeOf106
  v127 := Tryd.zeroValue106
  t164 := Tryd.underlying114
  a164 := Tryd.isAgg114
  z164 := Tryd.sizeOf114
  v164 := Tryd.zeroValue114 }
theorem Tryd.Builder_Extra_156 : Builder.Extra Tryd.prog Tryd.lays156_ren := {
  sizeBuilder := by kernel_rfl
  liesBuilder := by kernel_rfl
  t5 := Tryd.underlying5
  a5 := Tryd.isAgg5
  z5 := Tryd.sizeOf5
  v5 := Tryd.zeroValue5
  infoByte := by kernel_rfl
  cellsByte := by kernel_rfl
  sizeByte := by kernel_rfl
  neB5 := by decide }
open Go.RowKit in
/-- No element: the empty string; the world is as it was. (Whatever the slice's address and capacity: a nil slice too.) (LAID: no walk: one application.) -/
theorem Tryd.strings_Join_none (a : Option Addr) (c : Nat) (sep : ByteArray) (w : World) :
    Calls Tryd.prog 27 #[.slice a 0 c, .string sep] w fun e w' => e = .returned (.string ⟨#[]⟩) ∧ w' = w := Any.strings_Join_none Tryd.lays156 Tryd.Builder_Extra_156 a c sep w
open Go.RowKit in
/-- strings.Join: "Join concatenates the elements of its first argument to create a single string. The separator string sep is placed between elements in the resulting string.": HOWEVER MANY ELEMENTS. Below the heap's end the world is as it was. (LAID: no walk: one application.) -/
theorem Tryd.strings_Join (bk o c : Nat) (xs : List ByteArray) (sep : ByteArray) (w : World) (hcells : ∀ (j : Nat) x, xs[j]? = some x → w.cell? ⟨bk, o + j, none⟩ = some (.string x)) (hbk : bk < w.heap.size) (hN : xs.length ≤ 140737488355328) (hcap : xs.length ≤ c) (hlen : (Lib.join (xs.map (·.data.toList)) sep.data.toList).length ≤ 140737488355328) :
    Calls Tryd.prog 27 #[.slice (some ⟨bk, o, none⟩) xs.length c, .string sep] w fun e w' => e = .returned (.string ⟨(Lib.join (xs.map (·.data.toList)) sep.data.toList).toArray⟩) ∧ Below w.heap.size w w' := Any.strings_Join Tryd.lays156 Tryd.Builder_Extra_156 bk o c xs sep w hcells hbk hN hcap hlen
open Go.RowKit in
/-- (*strings.Builder).Len: "Len returns the number of accumulated bytes; b.Len() == len(b.String()).": the world is as it was. (THE FORM '_f': 'Lib.IsBuilderF'.) (LAID: no walk: one application.) -/
theorem Tryd.Builder_Len_f (B b : Nat) (bs : List Value) (w : World) (h : Lib.IsBuilderF 76 5 B b bs w) :
    Calls Tryd.prog 43 #[.pointer (some ⟨b, 0, none⟩)] w fun e w' => e = .returned (.int .i64 bs.length) ∧ w' = w := Any.Builder_Len_f Tryd.lays170 B b bs w h
open Go.RowKit in
/-- (*strings.Builder).String: "String returns the accumulated string.": OF A BUILDER THAT HOLDS AT LEAST ONE BYTE. ✋ THE MODEL FREEZES THOSE BYTES IN THE BUFFER (unsafe.String): a later write INTO them ends the model's run without an answer; a later append BEHIND them goes on. The statement's order of evaluation is drawn: one draw. THE FORM '_f': IT SAYS BESIDES THAT THE BUILDER IS A BUILDER STILL ('Lib.IsBuilderF', the same bytes): SO IT CAN BE WRITTEN ON: 'b.WriteString(b.String()[:k])'. (LAID: no walk: one application.) -/
theorem Tryd.Builder_String_f (B b : Nat) (l : List UInt8) (w : World) (h : Lib.IsBuilderF 76 5 B b (Lib.byteCells l) w) (h0 : l ≠ []) :
    Calls Tryd.prog 44 #[.pointer (some ⟨b, 0, none⟩)] w fun e w' => e = .returned (.string ⟨l.toArray⟩) ∧ (Lib.IsBuilderF 76 5 B b (Lib.byteCells l) w' ∧ Below B w w') := Any.Builder_String_f Tryd.lays169 Tryd.Builder_Extra_169 B b l w h h0
open Go.RowKit in
/-- (*strings.Builder).String OF A BUILDER THAT HOLDS NO BYTE: the empty string; THE FORM '_f': a builder still. (LAID: no walk: one application.) -/
theorem Tryd.Builder_String_empty_f (B b : Nat) (w : World) (h : Lib.IsBuilderF 76 5 B b [] w) (hBw : B ≤ w.heap.size) :
    Calls Tryd.prog 44 #[.pointer (some ⟨b, 0, none⟩)] w fun e w' => e = .returned (.string ⟨#[]⟩) ∧ (Lib.IsBuilderF 76 5 B b [] w' ∧ Below B w w') := Any.Builder_String_empty_f Tryd.lays169 Tryd.Builder_Extra_169 B b w h hBw
open Go.RowKit in
/-- (*strings.Builder).String: "String returns the accumulated string.": WHATEVER THE BUILDER HOLDS; THE FORM '_f': OF A BUILDER THAT MAY HAVE BEEN READ BEFORE; AND IT IS A BUILDER STILL, holding the same bytes: it can be written on. (LAID: no walk: one application.) -/
theorem Tryd.Builder_String_any_f (B b : Nat) (l : List UInt8) (w : World) (h : Lib.IsBuilderF 76 5 B b (Lib.byteCells l) w) (hBw : B ≤ w.heap.size) :
    Calls Tryd.prog 44 #[.pointer (some ⟨b, 0, none⟩)] w fun e w' => e = .returned (.string ⟨l.toArray⟩) ∧ (Lib.IsBuilderF 76 5 B b (Lib.byteCells l) w' ∧ Below B w w') := Any.Builder_String_any_f Tryd.lays169 Tryd.Builder_Extra_169 B b l w h hBw
def Tryd.lays129_ren : Go.Shelf.Ren := ⟨fun | 129 => 72 | n => n, fun | 53 => 56 | 3 => 3 | 4 => 4 | 46 => 49 | 5 => 5 | 9 => 9 | n => n, fun | n => n⟩
theorem Tryd.lays129 : Go.Proofs.Lays.n129 Tryd.prog Tryd.lays129_ren := {
  mixed := by kernel_rfl
  f129 := Tryd.func72.trans (congrArg some (by kernel_rfl))
  t3 := Tryd.underlying3
  a3 := Tryd.isAgg3
  z3 := Tryd.sizeOf3
  v3 := Tryd.zeroValue3
  t4 := Tryd.underlying4
  a4 := Tryd.isAgg4
  z4 := Tryd.sizeOf4
  v4 := Tryd.zeroValue4
  t5 := Tryd.underlying5
  a5 := Tryd.isAgg5
  z5 := Tryd.sizeOf5
  v5 := Tryd.zeroValue5
  t9 := Tryd.underlying9
  a9 := Tryd.isAgg9
  z9 := Tryd.sizeOf9
  v9 := Tryd.zeroValue9
  t46 := Tryd.underlying49
  a46 := Tryd.isAgg49
  z46 := Tryd.sizeOf49
  v46 := Tryd.zeroValue49
  t53 := Tryd.underlying56
  a53 := Tryd.isAgg56
  z53 := Tryd.sizeOf56
  v53 := Tryd.zeroValue56 }
/-- bits.Len64: "Len64 returns the minimum number of bits required to represent x; the result is 0 for x == 0.": IT RETURNS 'Lib.bitLen x'; the world is as it was. ('h0', 'h1': x is a uint64.) (LAID: no walk: one application.) -/
theorem Tryd.bits_Len64 (x : Int) (w : World) (h0 : 0 ≤ x) (h1 : x ≤ 18446744073709551615) :
    Calls Tryd.prog 72 #[.int .u64 x] w fun e w' => e = .returned (.int .i64 (Lib.bitLen x.toNat)) ∧ w' = w := Any.bits_Len64 Tryd.lays129 x w h0 h1
def Tryd.lays317_ren : Go.Shelf.Ren := ⟨fun | 317 => 71 | n => n, fun | 3 => 3 | 46 => 49 | n => n, fun | n => n⟩
theorem Tryd.lays317 : Go.Proofs.Lays.n317 Tryd.prog Tryd.lays317_ren := {
  mixed := by kernel_rfl
  f317 := Tryd.func71.trans (congrArg some (by kernel_rfl))
  t3 := Tryd.underlying3
  a3 := Tryd.isAgg3
  z3 := Tryd.sizeOf3
  v3 := Tryd.zeroValue3
  t46 := Tryd.underlying49
  a46 := Tryd.isAgg49
  z46 := Tryd.sizeOf49
  v46 := Tryd.zeroValue49 }
open Go.Lib in
/-- internal/strconv.log10Pow2: "log10Pow2(x) returns ⌊log₁₀ 2**x⌋ = ⌊x * log₁₀ 2⌋.": '(x * 78913) >> 18', at an x up to 64 (a length in bits). The world is as it was. (LAID: no walk: one application.) -/
theorem Tryd.internal_strconv_log10Pow2 (x : Nat) (h : x ≤ 64) (w : World) :
    Calls Tryd.prog 71 #[.int .i64 x] w fun e w' => e = .returned (.int .i64 (Lib.l10 x)) ∧ w' = w := Any.internal_strconv_log10Pow2 Tryd.lays317 x h w
def Tryd.lays318_ren : Go.Shelf.Ren := ⟨fun | 318 => 73 | n => n, fun | 3 => 3 | 4 => 4 | n => n, fun | n => n⟩
theorem Tryd.lays318 : Go.Proofs.Lays.n318 Tryd.prog Tryd.lays318_ren := {
  mixed := by kernel_rfl
  f318 := Tryd.func73.trans (congrArg some (by kernel_rfl))
  t3 := Tryd.underlying3
  a3 := Tryd.isAgg3
  z3 := Tryd.sizeOf3
  v3 := Tryd.zeroValue3
  t4 := Tryd.underlying4
  a4 := Tryd.isAgg4
  z4 := Tryd.sizeOf4
  v4 := Tryd.zeroValue4 }
open Go.Lib in
/-- internal/strconv.bool2: "bool2 converts b to an integer: 1 for true, 0 for false." The world is as it was. (LAID: no walk: one application.) -/
theorem Tryd.internal_strconv_bool2_int (b : Bool) (w : World) :
    Calls Tryd.prog 73 #[.bool b] w fun e w' => e = .returned (.int .i64 (if b then 1 else 0)) ∧ w' = w := Any.internal_strconv_bool2_int Tryd.lays318 b w
def Tryd.lays283_ren : Go.Shelf.Ren := ⟨fun | 283 => 57 | n => n, fun | 3 => 3 | 9 => 9 | 4 => 4 | n => n, fun | n => n⟩
theorem Tryd.lays283 : Go.Proofs.Lays.n283 Tryd.prog Tryd.lays283_ren := {
  mixed := by kernel_rfl
  f283 := Tryd.func57.trans (congrArg some (by kernel_rfl))
  t3 := Tryd.underlying3
  a3 := Tryd.isAgg3
  z3 := Tryd.sizeOf3
  v3 := Tryd.zeroValue3
  t4 := Tryd.underlying4
  a4 := Tryd.isAgg4
  z4 := Tryd.sizeOf4
  v4 := Tryd.zeroValue4
  t9 := Tryd.underlying9
  a9 := Tryd.isAgg9
  z9 := Tryd.sizeOf9
  v9 := Tryd.zeroValue9 }
open Go.Lib in
/-- internal/strconv.small: "small returns the string for an i with 0 <= i < nSmalls.": i's decimal numeral. The world is as it was. (LAID: no walk: one application.) -/
theorem Tryd.internal_strconv_small (i : Nat) (h : i < 100) (w : World) :
    Calls Tryd.prog 57 #[.int .i64 i] w fun e w' => e = .returned (.string ⟨(Lib.decDigits i).toArray⟩) ∧ w' = w := Any.internal_strconv_small Tryd.lays283 i h w
def Tryd.laysM284_ren : Go.Shelf.Ren := ⟨fun | 284 => 58 | 129 => 72 | 317 => 71 | 318 => 73 | n => n, fun | 53 => 56 | 3 => 3 | 212 => 110 | 0 => 0 | 4 => 4 | 46 => 49 | 5 => 5 | 9 => 9 | n => n, fun | 17 => 1 | n => n⟩
theorem Tryd.laysM284 : Go.Proofs.LaysM.n284 Tryd.prog Tryd.laysM284_ren := {
  mixed := by kernel_rfl
  f129 := Tryd.func72.trans (congrArg some (by kernel_rfl))
  f284 := Tryd.func58.trans (congrArg some (by kernel_rfl))
  f317 := Tryd.func71.trans (congrArg some (by kernel_rfl))
  f318 := Tryd.func73.trans (congrArg some (by kernel_rfl))
  t0 := Tryd.underlying0
  a0 := Tryd.isAgg0
  z0 := Tryd.sizeOf0
  v0 := Tryd.zeroValue0
  t3 := Tryd.underlying3
  a3 := Tryd.isAgg3
  z3 := Tryd.sizeOf3
  v3 := Tryd.zeroValue3
  t4 := Tryd.underlying4
  a4 := Tryd.isAgg4
  z4 := Tryd.sizeOf4
  v4 := Tryd.zeroValue4
  t5 := Tryd.underlying5
  a5 := Tryd.isAgg5
  z5 := Tryd.sizeOf5
  v5 := Tryd.zeroValue5
  t9 := Tryd.underlying9
  a9 := Tryd.isAgg9
  z9 := Tryd.sizeOf9
  v9 := Tryd.zeroValue9
  t46 := Tryd.underlying49
  a46 := Tryd.isAgg49
  z46 := Tryd.sizeOf49
  v46 := Tryd.zeroValue49
  t53 := Tryd.underlying56
  a53 := Tryd.isAgg56
  z53 := Tryd.sizeOf56
  v53 := Tryd.zeroValue56
  t212 := Tryd.underlying110
  a212 := Tryd.isAgg110
  z212 := Tryd.sizeOf110
  v212 := Tryd.zeroValue110
  g17 := by kernel_rfl
  i0 := by kernel_rfl
  i3 := by kernel_rfl
  i4 := by kernel_rfl
  i5 := by kernel_rfl
  i9 := by kernel_rfl
  i46 := by kernel_rfl
  i53 := by kernel_rfl
  i212 := by kernel_rfl
  m17 := by kernel_rfl }
open Go.Lib in
/-- internal/strconv.numDigits, at a d that is not 0: THE NUMBER OF d's DECIMAL DIGITS. The world is as it was. (LAID: no walk: one application.) -/
theorem Tryd.internal_strconv_numDigits (u : Nat) (h1 : 1 ≤ u) (h2 : u < 18446744073709551616) (w : World) (htab : Lib.TabIs Tryd.prog w "internal/strconv.uint64pow10" .u64 Lib.pow10Tab) :
    Calls Tryd.prog 58 #[.int .u64 u] w fun e w' => e = .returned (.int .i64 (Lib.nDigits u)) ∧ w' = w := Any.internal_strconv_numDigits Tryd.laysM284 u h1 h2 w htab
def Tryd.lays285_ren : Go.Shelf.Ren := ⟨fun | 285 => 59 | n => n, fun | 37 => 48 | 53 => 56 | 3 => 3 | 4 => 4 | 51 => 51 | 9 => 9 | 5 => 5 | 0 => 0 | n => n, fun | n => n⟩
theorem Tryd.lays285 : Go.Proofs.Lays.n285 Tryd.prog Tryd.lays285_ren := {
  mixed := by kernel_rfl
  f285 := Tryd.func59.trans (congrArg some (by kernel_rfl))
  t0 := Tryd.underlying0
  a0 := Tryd.isAgg0
  z0 := Tryd.sizeOf0
  v0 := Tryd.zeroValue0
  t3 := Tryd.underlying3
  a3 := Tryd.isAgg3
  z3 := Tryd.sizeOf3
  v3 := Tryd.zeroValue3
  t4 := Tryd.underlying4
  a4 := Tryd.isAgg4
  z4 := Tryd.sizeOf4
  v4 := Tryd.zeroValue4
  t5 := Tryd.underlying5
  a5 := Tryd.isAgg5
  z5 := Tryd.sizeOf5
  v5 := Tryd.zeroValue5
  t9 := Tryd.underlying9
  a9 := Tryd.isAgg9
  z9 := Tryd.sizeOf9
  v9 := Tryd.zeroValue9
  t37 := Tryd.underlying48
  a37 := Tryd.isAgg48
  z37 := Tryd.sizeOf48
  v37 := Tryd.zeroValue48
  t51 := Tryd.underlying51
  a51 := Tryd.isAgg51
  z51 := Tryd.sizeOf51
  v51 := Tryd.zeroValue51
  t53 := Tryd.underlying56
  a53 := Tryd.isAgg56
  z53 := Tryd.sizeOf56
  v53 := Tryd.zeroValue56 }
open Go.RowKit Go.Sort Go.Lib in
/-- internal/strconv.formatBase10: "formatBase10 formats the decimal representation of u into a. The caller is responsible for ensuring that a is big enough to hold u. If a is too big, leading zeros will be filled in as needed.": THE ROW HOLDS u's DIGITS ('FmtInv .. 0 ..': every place t holds 'dg u (len - 1 - t)'); all else is as it was but for the count of draws. (LAID: no walk: one application.) -/
theorem Tryd.internal_strconv_formatBase10 (blk off cap : Nat) (u : Nat) (d : Array UInt8) (w : World) (hH : Holds (fun (b : UInt8) => Value.int .u8 (b.toNat : Int)) w blk off d) (hu : u < 10 ^ d.size) (hu64 : u < 18446744073709551616) (hsz : d.size < 4611686018427387904) :
    Calls Tryd.prog 59 #[.slice (some ⟨blk, off, none⟩) d.size cap, .int .u64 u] w fun e w' =>
      e = .returned (.tuple #[]) ∧ ∃ (n v' : Nat) (dk : Array UInt8), w' = (putRow (fun (b : UInt8) => Value.int .u8 (b.toNat : Int)) w blk off dk).drewN n ∧ FmtInv d.size u 0 v' dk := Any.internal_strconv_formatBase10 Tryd.lays285 blk off cap u d w hH hu hu64 hsz
def Tryd.lays206_ren : Go.Shelf.Ren := ⟨fun | 206 => 63 | n => n, fun | 9 => 9 | 4 => 4 | 3 => 3 | n => n, fun | n => n⟩
theorem Tryd.lays206 : Go.Proofs.Lays.n206 Tryd.prog Tryd.lays206_ren := {
  mixed := by kernel_rfl
  f206 := Tryd.func63.trans (congrArg some (by kernel_rfl))
  t3 := Tryd.underlying3
  a3 := Tryd.isAgg3
  z3 := Tryd.sizeOf3
  v3 := Tryd.zeroValue3
  t4 := Tryd.underlying4
  a4 := Tryd.isAgg4
  z4 := Tryd.sizeOf4
  v4 := Tryd.zeroValue4
  t9 := Tryd.underlying9
  a9 := Tryd.isAgg9
  z9 := Tryd.sizeOf9
  v9 := Tryd.zeroValue9 }
open Go.RowKit Go.Lib in
/-- internal/stringslite.HasPrefix (what strings.HasPrefix calls). (LAID: no walk: one application.) -/
theorem Tryd.stringslite_HasPrefix (s p : ByteArray) (w : World) :
    Calls Tryd.prog 63 #[.string s, .string p] w fun e w' => e = .returned (.bool (Lib.hasPrefix s.data.toList p.data.toList)) ∧ w' = w := Any.stringslite_HasPrefix Tryd.lays206 s p w
def Tryd.lays99_ren : Go.Shelf.Ren := ⟨fun | 99 => 40 | 206 => 63 | n => n, fun | 9 => 9 | 4 => 4 | 3 => 3 | n => n, fun | n => n⟩
theorem Tryd.lays99 : Go.Proofs.Lays.n99 Tryd.prog Tryd.lays99_ren := {
  mixed := by kernel_rfl
  f99 := Tryd.func40.trans (congrArg some (by kernel_rfl))
  f206 := Tryd.func63.trans (congrArg some (by kernel_rfl))
  t3 := Tryd.underlying3
  a3 := Tryd.isAgg3
  z3 := Tryd.sizeOf3
  v3 := Tryd.zeroValue3
  t4 := Tryd.underlying4
  a4 := Tryd.isAgg4
  z4 := Tryd.sizeOf4
  v4 := Tryd.zeroValue4
  t9 := Tryd.underlying9
  a9 := Tryd.isAgg9
  z9 := Tryd.sizeOf9
  v9 := Tryd.zeroValue9 }
open Go.RowKit Go.Lib in
/-- strings.HasPrefix: "HasPrefix reports whether the string s begins with prefix.": IT RETURNS 'Lib.hasPrefix s prefix'; the world is as it was. (LAID: no walk: one application.) -/
theorem Tryd.strings_HasPrefix (s p : ByteArray) (w : World) :
    Calls Tryd.prog 40 #[.string s, .string p] w fun e w' => e = .returned (.bool (Lib.hasPrefix s.data.toList p.data.toList)) ∧ w' = w := Any.strings_HasPrefix Tryd.lays99 s p w
def Tryd.lays264_ren : Go.Shelf.Ren := ⟨fun | 264 => 62 | n => n, fun | 53 => 56 | 46 => 49 | n => n, fun | n => n⟩
theorem Tryd.lays264 : Go.Proofs.Lays.n264 Tryd.prog Tryd.lays264_ren := {
  mixed := by kernel_rfl
  f264 := Tryd.func62.trans (congrArg some (by kernel_rfl))
  t46 := Tryd.underlying49
  a46 := Tryd.isAgg49
  z46 := Tryd.sizeOf49
  v46 := Tryd.zeroValue49
  t53 := Tryd.underlying56
  a53 := Tryd.isAgg56
  z53 := Tryd.sizeOf56
  v53 := Tryd.zeroValue56 }
open Go.RowKit Go.Lib in
theorem Tryd.bits_Mul64 (x y : Nat) (hx : x < 18446744073709551616) (hy : y < 18446744073709551616) (w : World) :
    Calls Tryd.prog 62 #[.int .u64 x, .int .u64 y] w fun e w' => e = .returned (.tuple #[.int .u64 ((x * y / 18446744073709551616 : Nat) : Int), .int .u64 ((x * y % 18446744073709551616 : Nat) : Int)]) ∧ w' = w := Any.bits_Mul64 Tryd.lays264 x y hx hy w
def Tryd.lays212_ren : Go.Shelf.Ren := ⟨fun | 212 => 39 | 263 => 61 | 264 => 62 | n => n, fun | 46 => 49 | 51 => 51 | 146 => 89 | 53 => 56 | 148 => 104 | n => n, fun | n => n⟩
theorem Tryd.lays212 : Go.Proofs.Lays.n212 Tryd.prog Tryd.lays212_ren := {
  mixed := by kernel_rfl
  f212 := Tryd.func39.trans (congrArg some (by kernel_rfl))
  f263 := Tryd.func61.trans (congrArg some (by kernel_rfl))
  f264 := Tryd.func62.trans (congrArg some (by kernel_rfl))
  t46 := Tryd.underlying49
  a46 := Tryd.isAgg49
  z46 := Tryd.sizeOf49
  v46 := Tryd.zeroValue49
  t51 := Tryd.underlying51
  a51 := Tryd.isAgg51
  z51 := Tryd.sizeOf51
  v51 := Tryd.zeroValue51
  t53 := Tryd.underlying56
  a53 := Tryd.isAgg56
  z53 := Tryd.sizeOf56
  v53 := Tryd.zeroValue56
  t146 := Tryd.underlying89
  a146 := Tryd.isAgg89
  z146 := Tryd.sizeOf89
  v146 := Tryd.zeroValue89
  t148 := Tryd.underlying104
  a148 := Tryd.isAgg104
  z148 := Tryd.sizeOf104
  v148 := Tryd.zeroValue104 }
open Go.RowKit Go.Lib in
/-- math/bits.Mul: "Mul returns the full-width product of x and y": on a machine of 64 bits: Mul64's. (LAID: no walk: one application.) -/
theorem Tryd.bits_Mul (x y : Nat) (hx : x < 18446744073709551616) (hy : y < 18446744073709551616) (w : World) :
    Calls Tryd.prog 39 #[.int .u64 x, .int .u64 y] w fun e w' => e = .returned (.tuple #[.int .u64 ((x * y / 18446744073709551616 : Nat) : Int), .int .u64 ((x * y % 18446744073709551616 : Nat) : Int)]) ∧ w' = w := Any.bits_Mul Tryd.lays212 x y hx hy w
def Tryd.lays105_ren : Go.Shelf.Ren := ⟨fun | 105 => 25 | 212 => 39 | 99 => 40 | 165 => 41 | 166 => 42 | 170 => 43 | 169 => 44 | 263 => 61 | 264 => 62 | 206 => 63 | 240 => 64 | 241 => 65 | 276 => 76 | 277 => 77 | n => n, fun | 9 => 9 | 3 => 3 | 4 => 4 | 20 => 20 | 0 => 0 | 46 => 49 | 109 => 71 | 5 => 5 | 72 => 76 | 76 => 80 | 51 => 51 | 146 => 89 | 53 => 56 | 148 => 104 | 70 => 74 | 37 => 48 | 75 => 79 | 127 => 106 | 164 => 114 | 80 => 83 | n => n, fun | n => n⟩
theorem Tryd.lays105 : Go.Proofs.Lays.n105 Tryd.prog Tryd.lays105_ren := {
  mixed := by kernel_rfl
  f99 := Tryd.func40.trans (congrArg some (by kernel_rfl))
  f105 := Tryd.func25.trans (congrArg some (by kernel_rfl))
  f165 := Tryd.func41.trans (congrArg some (by kernel_rfl))
  f166 := Tryd.func42.trans (congrArg some (by kernel_rfl))
  f169 := Tryd.func44.trans (congrArg some (by kernel_rfl))
  f170 := Tryd.func43.trans (congrArg some (by kernel_rfl))
  f206 := Tryd.func63.trans (congrArg some (by kernel_rfl))
  f212 := Tryd.func39.trans (congrArg some (by kernel_rfl))
  f240 := Tryd.func64.trans (congrArg some (by kernel_rfl))
  f241 := Tryd.func65.trans (congrArg some (by kernel_rfl))
  f263 := Tryd.func61.trans (congrArg some (by kernel_rfl))
  f264 := Tryd.func62.trans (congrArg some (by kernel_rfl))
  f276 := Tryd.func76.trans (congrArg some (by kernel_rfl))
  f277 := Tryd.func77.trans (congrArg some (by kernel_rfl))
  t0 := Tryd.underlying0
  a0 := Tryd.isAgg0
  z0 := Tryd.sizeOf0
  v0 := Tryd.zeroValue0
  t3 := Tryd.underlying3
  a3 := Tryd.isAgg3
  z3 := Tryd.sizeOf3
  v3 := Tryd.zeroValue3
  t4 := Tryd.underlying4
  a4 := Tryd.isAgg4
  z4 := Tryd.sizeOf4
  v4 := Tryd.zeroValue4
  t5 := Tryd.underlying5
  a5 := Tryd.isAgg5
  z5 := Tryd.sizeOf5
  v5 := Tryd.zeroValue5
  t9 := Tryd.underlying9
  a9 := Tryd.isAgg9
  z9 := Tryd.sizeOf9
  v9 := Tryd.zeroValue9
  t20 := Tryd.underlying20
  a20 := Tryd.isAgg20
  z20 := Tryd.sizeOf20
  v20 := Tryd.zeroValue20
  t37 := Tryd.underlying48
  a37 := Tryd.isAgg48
  z37 := Tryd.sizeOf48
  v37 := Tryd.zeroValue48
  t46 := Tryd.underlying49
  a46 := Tryd.isAgg49
  z46 := Tryd.sizeOf49
  v46 := Tryd.zeroValue49
  t51 := Tryd.underlying51
  a51 := Tryd.isAgg51
  z51 := Tryd.sizeOf51
  v51 := Tryd.zeroValue51
  t53 := Tryd.underlying56
  a53 := Tryd.isAgg56
  z53 := Tryd.sizeOf56
  v53 := Tryd.zeroValue56
  t70 := Tryd.underlying74
  a70 := Tryd.isAgg74
  z70 := Tryd.sizeOf74
  v70 := Tryd.zeroValue74
  t72 := Tryd.underlying76
  a72 := Tryd.isAgg76
  z72 := Tryd.sizeOf76
  v72 := Tryd.zeroValue76
  t75 := Tryd.underlying79
  a75 := Tryd.isAgg79
  z75 := Tryd.sizeOf79
  v75 := Tryd.zeroValue79
  t76 := Tryd.underlying80
  a76 := Tryd.isAgg80
  z76 := Tryd.sizeOf80
  v76 := Tryd.zeroValue80
  t109 := Tryd.underlying71
  a109 := Tryd.isAgg71
  z109 := Tryd.sizeOf71
  v109 := Tryd.zeroValue71
  t127 := Tryd.underlying106
  a127 := Tryd.isAgg106
  z127 := Tryd.sizeOf106
  v127 := Tryd.zeroValue106
  t146 := Tryd.underlying89
  a146 := Tryd.isAgg89
  z146 := Tryd.sizeOf89
  v146 := Tryd.zeroValue89
  t148 := Tryd.underlying104
  a148 := Tryd.isAgg104
  z148 := Tryd.sizeOf104
  v148 := Tryd.zeroValue104
  t164 := Tryd.underlying114
  a164 := Tryd.isAgg114
  z164 := Tryd.sizeOf114
  v164 := Tryd.zeroValue114 }
theorem Tryd.Builder_Extra_105 : Builder.Extra Tryd.prog Tryd.lays105_ren := {
  sizeBuilder := by kernel_rfl
  liesBuilder := by kernel_rfl
  t5 := Tryd.underlying5
  a5 := Tryd.isAgg5
  z5 := Tryd.sizeOf5
  v5 := Tryd.zeroValue5
  infoByte := by kernel_rfl
  cellsByte := by kernel_rfl
  sizeByte := by kernel_rfl
  neB5 := by decide }
open Go.RowKit Go.Lib in
/-- THE MAIN CASE: at least two copies of a string that is not empty. (LAID: no walk: one application.) -/
theorem Tryd.strings_Repeat_main (s : ByteArray) (c : Nat) (w : World) (hc2 : 2 ≤ c) (hc : c ≤ 9223372036854775807) (hlen : s.size * c ≤ 140737488355328) (h0 : 0 < s.size) :
    Calls Tryd.prog 25 #[.string s, .int .i64 c] w fun e w' => e = .returned (.string ⟨(Lib.repeatL s.data.toList c).toArray⟩) ∧ Below w.heap.size w w' := Any.strings_Repeat_main Tryd.lays105 Tryd.Builder_Extra_105 s c w hc2 hc hlen h0
open Go.RowKit Go.Lib in
theorem Tryd.strings_Repeat_zero (s : ByteArray) (w : World) :
    Calls Tryd.prog 25 #[.string s, .int .i64 0] w fun e w' => e = .returned (.string ⟨#[]⟩) ∧ w' = w := Any.strings_Repeat_zero Tryd.lays105 s w
open Go.RowKit Go.Lib in
theorem Tryd.strings_Repeat_one (s : ByteArray) (w : World) :
    Calls Tryd.prog 25 #[.string s, .int .i64 1] w fun e w' => e = .returned (.string s) ∧ w' = w := Any.strings_Repeat_one Tryd.lays105 s w
open Go.RowKit Go.Lib in
/-- Copies of the empty string. (LAID: no walk: one application.) -/
theorem Tryd.strings_Repeat_empty (s : ByteArray) (c : Nat) (w : World) (hc2 : 2 ≤ c) (hc : c ≤ 9223372036854775807) (h0 : s.size = 0) :
    Calls Tryd.prog 25 #[.string s, .int .i64 c] w fun e w' => e = .returned (.string ⟨#[]⟩) ∧ w' = w := Any.strings_Repeat_empty Tryd.lays105 s c w hc2 hc h0
open Go.RowKit Go.Lib in
/-- count < 0: "It panics if count is negative". (LAID: no walk: one application.) -/
theorem Tryd.strings_Repeat_negative (s : ByteArray) (c : Int) (w : World) (hc : c < 0) :
    Calls Tryd.prog 25 #[.string s, .int .i64 c] w fun e w' => e = .panicked [{ v := repeatPanic Tryd.lays105_ren "strings: negative Repeat count", recovered := false }] ∧ w' = w := Any.strings_Repeat_negative Tryd.lays105 s c w hc
open Go.RowKit Go.Lib in
/-- len(s) * count is no int: ".. or if the result of (len(s) * count) overflows". (LAID: no walk: one application.) -/
theorem Tryd.strings_Repeat_overflow (s : ByteArray) (c : Nat) (w : World) (hc : c ≤ 9223372036854775807) (hs : s.size ≤ 9223372036854775807) (hbig : 9223372036854775807 < s.size * c) :
    Calls Tryd.prog 25 #[.string s, .int .i64 c] w fun e w' => e = .panicked [{ v := repeatPanic Tryd.lays105_ren "strings: Repeat output length overflow", recovered := false }] ∧ w' = w := Any.strings_Repeat_overflow Tryd.lays105 s c w hc hs hbig
open Go.RowKit Go.Lib in
/-- **strings.Repeat: count ≥ 0, the result within one allocation: count copies of s.** (LAID: no walk: one application.) -/
theorem Tryd.strings_Repeat (s : ByteArray) (c : Nat) (w : World) (hc : c ≤ 9223372036854775807) (hlen : s.size * c ≤ 140737488355328) :
    Calls Tryd.prog 25 #[.string s, .int .i64 c] w fun e w' => e = .returned (.string ⟨(Lib.repeatL s.data.toList c).toArray⟩) ∧ Below w.heap.size w w' := Any.strings_Repeat Tryd.lays105 Tryd.Builder_Extra_105 s c w hc hlen
def Tryd.laysNm217_ren : Go.Shelf.Ren := ⟨fun | 17 => 26 | n => n, fun | 24 => 53 | 9 => 9 | 3 => 3 | 4 => 4 | 0 => 0 | n => n, fun | n => n⟩
theorem Tryd.laysNm217 : Go.Proofs.Lays2.n17 Tryd.prog Tryd.laysNm217_ren := {
  mixed := by kernel_rfl
  f17 := Tryd.func26.trans (congrArg some (by kernel_rfl))
  t0 := Tryd.underlying0
  a0 := Tryd.isAgg0
  z0 := Tryd.sizeOf0
  v0 := Tryd.zeroValue0
  t3 := Tryd.underlying3
  a3 := Tryd.isAgg3
  z3 := Tryd.sizeOf3
  v3 := Tryd.zeroValue3
  t4 := Tryd.underlying4
  a4 := Tryd.isAgg4
  z4 := Tryd.sizeOf4
  v4 := Tryd.zeroValue4
  t9 := Tryd.underlying9
  a9 := Tryd.isAgg9
  z9 := Tryd.sizeOf9
  v9 := Tryd.zeroValue9
  t24 := Tryd.underlying53
  a24 := Tryd.isAgg53
  z24 := Tryd.sizeOf53
  v24 := Tryd.zeroValue53 }
open Go.RowKit Go.Lib Go.Sort in
/-- slices.Reverse at []string, over an array: Go's loop from the two ends inward is walked; it makes 'Sort.reverseLoop 0 (len - 1)', which is 'Array.reverse' (Derived/Lib/SlicesMore.lean). (LAID: no walk: one application.) -/
theorem Tryd.slices_Reverse_string_arr (blk off cap : Nat) (d : Array (List UInt8)) (w : World) (hH : Holds encStr w blk off d) (hsz : d.size ≤ 9223372036854775807) :
    Calls Tryd.prog 26 #[.slice (some ⟨blk, off, none⟩) d.size cap] w fun e w' => e = .returned (.tuple #[]) ∧ ∃ n, w' = putRow encStr (Sort.ahead w n) blk off d.reverse := Any.slices_Reverse_string_arr Tryd.laysNm217 blk off cap d w hH hsz
open Go.RowKit Go.Lib Go.Sort in
/-- slices.Reverse at []string: "Reverse reverses the elements of the slice in place.": THE SLICE's CELLS HOLD 'zs.reverse' BEHIND THE CALL; all else is as it was, but for the count of draws (the exchange 's[i], s[j] = s[j], s[i]' draws its order, once a round). IN THE WORDS OF slices.Sort's CONTRACT: 'Holds': the cells hold zs and none is frozen; 'putRow': the world with those cells holding another array. A slice of length 0 that is not nil is among them ('zs = []'); nil: '.._nil'. (LAID: no walk: one application.) -/
theorem Tryd.slices_Reverse_string (blk off cap : Nat) (zs : List (List UInt8)) (w : World) (hH : Holds encStr w blk off zs.toArray) (hsz : zs.length ≤ 9223372036854775807) :
    Calls Tryd.prog 26 #[.slice (some ⟨blk, off, none⟩) zs.length cap] w fun e w' => e = .returned (.tuple #[]) ∧ ∃ n, w' = putRow encStr (Sort.ahead w n) blk off zs.reverse.toArray := Any.slices_Reverse_string Tryd.laysNm217 blk off cap zs w hH hsz
open Go.RowKit Go.Lib Go.Sort in
/-- The same at a slice of length 0, a nil one too: nothing is read, nothing written, nothing drawn. (LAID: no walk: one application.) -/
theorem Tryd.slices_Reverse_string_empty (a : Option Addr) (cap : Nat) (w : World) :
    Calls Tryd.prog 26 #[.slice a 0 cap] w fun e w' => e = .returned (.tuple #[]) ∧ w' = w := Any.slices_Reverse_string_empty Tryd.laysNm217 a cap w
open Go.RowKit Go.Lib Go.Sort in
/-- slices.Reverse at []string, of an argument. (LAID: no walk: one application.) -/
theorem Tryd.slices_Reverse_string_cells (b off n c : Nat) (Sx : Nat → ByteArray) (w : World) (hbig : n ≤ 9223372036854775807) (hc : ∀ i, i < n → w.cell? ⟨b, off + i, none⟩ = some (.string (Sx i))) (hf : ∀ j, j < n → w.frozen? ⟨b, off + j, none⟩ = false) :
    Calls Tryd.prog 26 #[.slice (some ⟨b, off, none⟩) n c] w fun e w' => e = .returned (.tuple #[]) ∧ ∃ q, w' = (w.drewN q).setCells b off ((Lib.strsOf Sx n).reverse.map encStr) := Any.slices_Reverse_string_cells Tryd.laysNm217 b off n c Sx w hbig hc hf
end Go.Proofs
end

section
/-
  strconv.FormatUint at base 10.
-/
namespace Go.Proofs.YtcciibejachjkaaDoor
open Go.RowKit Go.Sort
def P10 (w : World) : Prop := Lib.TabIs Tryd.prog w "internal/strconv.uint64pow10" .u64 Lib.pow10Tab
set_option maxHeartbeats 4000000 in
set_option maxRecDepth 100000 in
theorem ifmt_any (u : Nat) (h1 : 1 ≤ u) (hu64 : u < 18446744073709551616) (w : World) (htab : P10 w) :
    Calls Tryd.prog 38 #[.int .u64 u, .int .i64 10] w fun e w' => e = .returned (.string ⟨(Lib.decDigits u).toArray⟩) ∧ Below w.heap.size w w' := by
  rcases Nat.lt_or_ge u 100 with hs | hs
  · have d0 : decide ((u : Int) < 100) = true := by simp; omega
    have hw := Lib.hid (IntWalk.wrap64_in (u : Int) (by omega))
    go_enter Tryd.func38, Tryd.ntmps38
    go_wp2_with fail
    refine (Tryd.internal_strconv_small u hs _).mono ?_
    rintro e w' ⟨rfl, rfl⟩
    go_wp2
    go_ret
    exact ⟨rfl, Below.refl _ _⟩
  · have d0 : decide ((u : Int) < 100) = false := by simp; omega
    have hnd20 : Lib.nDigits u ≤ 20 := by have := Lib.numDigits_eq u h1 hu64; split at this <;> omega
    have hal : Tryd.prog.arrayLen 98 = 24 := by simp [Program.arrayLen, Tryd.underlying98]
    have hsl1 : ∀ W, (Instr.sliceAt 98 (.pointer (some ⟨w.heap.size, 0, none⟩)) none (some (.int .i64 (Lib.nDigits u : Int))) none).run Tryd.prog W = .ok (.slice (some ⟨w.heap.size, 0, none⟩) (Lib.nDigits u) 24) W := fun W => by
      rw [run_sliceAt_array_h W 98 ⟨w.heap.size, 0, none⟩ (by simp [Program.arrayLen, Program.elem, Tryd.underlying98]) .i64 (Lib.nDigits u : Int) (by omega) (by rw [hal]; omega)]
      go_simp
    have hH0 := Lib.holds_zero0 w 98 (Lib.nDigits u) (by omega)
    have hfmt := Tryd.internal_strconv_formatBase10 w.heap.size 0 24 u (Array.replicate (Lib.nDigits u) 0) (w.alloc (.cells Lib.zeros24 98)) hH0 (by rw [Array.size_replicate]; exact Lib.lt_pow_nDigits u) hu64 (by rw [Array.size_replicate]; omega)
    rw [Array.size_replicate] at hfmt
    have HF := Lib.hid hfmt
    have HH0 := Lib.hid hH0
    clear hH0 hal hfmt
    have HND := Lib.hid (Tryd.internal_strconv_numDigits u h1 hu64 _ (Lib.tabIs_alloc htab (.cells Lib.zeros24 98)))
    clear htab
    go_enter Tryd.func38, Tryd.ntmps38
    go_wp2_with fail
    refine HND.out.mono ?_
    rintro e w' ⟨rfl, rfl⟩
    go_wp2_with fail
    refine HF.out.mono ?_
    rintro e w' ⟨rfl, k, v', dk, rfl, hF⟩
    have hcv : (convert 48 9 (.slice (some ⟨w.heap.size, 0, none⟩) (Lib.nDigits u) 24)).run Tryd.prog ((putRow (fun (b : UInt8) => Value.int .u8 (b.toNat : Int)) (w.alloc (.cells Lib.zeros24 98)) w.heap.size 0 dk).drewN k) = .ok (.string ⟨(Lib.decDigits u).toArray⟩) ((putRow (fun (b : UInt8) => Value.int .u8 (b.toNat : Int)) (w.alloc (.cells Lib.zeros24 98)) w.heap.size 0 dk).drewN k) := by
      have h := run_convert_bytes_back (P := Tryd.prog) ((putRow (fun (b : UInt8) => Value.int .u8 (b.toNat : Int)) (w.alloc (.cells Lib.zeros24 98)) w.heap.size 0 dk).drewN k) 48 9 5 ⟨w.heap.size, 0, none⟩ 24 (Lib.decDigits u) Tryd.underlying48 Tryd.underlying5 Tryd.underlying9 (fun j hj => by
        rw [Lib.row_is_numeral hF j hj, Lib.add_plain, World.cell?_drewN]
        exact cell?_putRow (fun (b : UInt8) => Value.int .u8 (b.toNat : Int)) _ w.heap.size 0 _ dk HH0.out (by rw [hF.size, Array.size_replicate]) j (by rw [hF.size]; rw [Lib.decDigits_length] at hj; exact hj))
      rw [Lib.decDigits_length] at h
      exact h
    go_wp2
    go_ret
    obtain ⟨os, eo⟩ := Lib.fin_at w (.cells Lib.zeros24 98) dk k 0
    exact ⟨rfl, by rw [eo]; exact Lib.below_grow _ _ (Nat.le_refl _) _ _⟩
set_option maxHeartbeats 1000000 in
set_option maxRecDepth 100000 in
theorem fmt_any (u : Nat) (h1 : 1 ≤ u) (hu64 : u < 18446744073709551616) (w : World) (htab : P10 w) :
    Calls Tryd.prog 24 #[.int .u64 u, .int .i64 10] w fun e w' => e = .returned (.string ⟨(Lib.decDigits u).toArray⟩) ∧ Below w.heap.size w w' := by
  have HC := Lib.hid (ifmt_any u h1 hu64 w htab)
  clear htab h1 hu64
  go_enter Tryd.func24, Tryd.ntmps24
  go_wp2_with fail
  refine HC.out.mono ?_
  rintro e w' ⟨rfl, hb⟩
  have HB := Lib.hid hb
  clear hb
  go_wp2
  go_ret
  exact ⟨rfl, HB.out⟩
end Go.Proofs.YtcciibejachjkaaDoor
end

section
/-
  Rows of strings of the call's own: reversed, joined. zint.Text of a number of one part.
-/
namespace Go.Proofs.YtcciibejachjkaaDoor
open Go.RowKit Go.Sort
theorem inter_nil : ∀ zs : List (List UInt8), List.intercalate [] zs = zs.flatten
  | [] => rfl
  | [z] => by simp [List.intercalate]
  | z :: z' :: zs => by
    have := inter_nil (z' :: zs)
    simp only [List.intercalate, List.intersperse_cons_cons, List.flatten_cons, List.nil_append] at this ⊢
    rw [this]
theorem rev_own (base : Nat) (v : Value) (n : Nat) (zs : List (List UInt8)) (w : World) (h : w.ownsRow base 9 1 v n (zs.map Proofs.encStr)) (hv : v ≠ .slice none 0 0) (hn : n ≤ 1000000) :
    Calls Tryd.prog 26 #[v] w fun e w' => e = .returned (.tuple #[]) ∧ w'.ownsRow base 9 1 v n (zs.reverse.map Proofs.encStr) ∧ Below base w w' := by
  obtain ⟨g, cap, rfl, hb, hg, hnc, hm, hl, hH⟩ := Lib.holds_of_ownsRow h hv
  subst hl
  refine (Tryd.slices_Reverse_string g 0 cap zs w hH (by omega)).mono ?_
  rintro e w' ⟨rfl, k, rfl⟩
  have h1 := Lib.ownsRow_putRow (q := k) h (ys := zs.reverse) (by simp) (Nat.le_refl _)
  have h2 := Lib.below_putRow (enc := Proofs.encStr) (q := k) (d := zs.reverse.toArray) (Below.refl base w) hb
  rw [List.take_of_length_le (by simp)] at h1
  exact ⟨rfl, h1, h2⟩
theorem join_own (base : Nat) (v : Value) (n : Nat) (zs : List (List UInt8)) (w : World) (h : w.ownsRow base 9 1 v n (zs.map Proofs.encStr)) (hv : v ≠ .slice none 0 0) (hn : n ≤ 1000000) (hlen : zs.flatten.length ≤ 1000000) :
    Calls Tryd.prog 27 #[v, .string ⟨#[]⟩] w fun e w' => e = .returned (.string ⟨zs.flatten.toArray⟩) ∧ Below w.heap.size w w' := by
  obtain ⟨g, cap, rfl, hb, hg, hnc, hm, hl, hH⟩ := Lib.holds_of_ownsRow h hv
  subst hl
  have ej : Lib.join ((zs.map fun l => (⟨l.toArray⟩ : ByteArray)).map (·.data.toList)) (⟨#[]⟩ : ByteArray).data.toList = zs.flatten := by
    rw [List.map_map]
    have e1 : ((fun x : ByteArray => x.data.toList) ∘ fun l : List UInt8 => (⟨l.toArray⟩ : ByteArray)) = id := by funext l; simp
    rw [e1, List.map_id]
    show List.intercalate [] zs = zs.flatten
    exact inter_nil zs
  have h1 := Tryd.strings_Join g 0 cap (zs.map fun l => (⟨l.toArray⟩ : ByteArray)) ⟨#[]⟩ w (fun j x hx => by
    rw [List.getElem?_map] at hx
    rcases hz : zs[j]? with _ | l
    · rw [hz] at hx; cases hx
    · rw [hz] at hx
      simp only [Option.map_some, Option.some.injEq] at hx
      subst hx
      have := h.cells (g := g) rfl j (Proofs.encStr l) (by rw [List.getElem?_map, hz]; rfl)
      rw [Addr.add_lit] at this
      exact this) hg (by simp; omega) (by simp; omega) (by rw [ej]; omega)
  rw [ej, List.length_map] at h1
  exact h1
end Go.Proofs.YtcciibejachjkaaDoor
end

section
/-
  zint.Div, behind a divisor that is not nought.
-/
namespace Go.Proofs.YtcciibejachjkaaDoor
open Go.RowKit
set_option maxHeartbeats 8000000 in
set_option maxRecDepth 100000 in
theorem zdiv_any (A B : Option Addr) (c d : Nat) (s r : Bool) (xs ys : List Nat) (w : World) (h : Dg w A c xs) (h' : Dg w B d ys) (hl : xs.length ≤ 500000) (hl' : ys.length ≤ 500000) (hy : val ys ≠ 0) :
    Calls Tryd.prog 14 #[.agg #[.bool s, .slice A xs.length c], .agg #[.bool r, .slice B ys.length d]] w fun e w' => Zr2 (Int.fdiv (sg s (val xs)) (sg r (val ys))) (Int.fmod (sg s (val xs)) (sg r (val ys))) w e w' := by
  have HY := Lib.hid hy
  clear hy
  have l1 := digs_len_le h.2.1
  have l2 := digs_len_le h'.2.1
  obtain ⟨t1, ht1⟩ : ∃ t, (s && decide (0 < val xs)) = t := ⟨_, rfl⟩
  obtain ⟨t2, ht2⟩ : ∃ t, (r && decide (0 < val ys)) = t := ⟨_, rfl⟩
  have TA := Lib.hid (fun W h => take_any A c s xs W h (by omega))
  have TB := Lib.hid (fun W h => take_any B d r ys W h (by omega))
  have E1 := Lib.hid (sg_take s (val xs))
  have E2 := Lib.hid (sg_take r (val ys))
  rw [ht1] at TA E1
  rw [ht2] at TB E2
  have HT1 := Lib.hid ht1
  have HT2 := Lib.hid ht2
  clear ht1 ht2
  go_enter Tryd.func14, Tryd.ntmps14
  go_upto_region 1 with fail
  have HB0 := Lib.hid (below4 w (.cells #[.bool s, .slice A xs.length c] 24) (.cells #[.bool r, .slice B ys.length d] 24) (.cells #[.bool false, .slice none 0 0] 24) (.cells #[.bool false, .slice none 0 0] 24))
  obtain ⟨W, hW⟩ : ∃ W : World, W = ((((w.alloc (.cells #[.bool s, .slice A xs.length c] 24)).alloc (.cells #[.bool r, .slice B ys.length d] 24)).alloc (.cells #[.bool false, .slice none 0 0] 24)).alloc (.cells #[.bool false, .slice none 0 0] 24)) := ⟨_, rfl⟩
  have F0 : W.cell? ⟨w.heap.size, 0, none⟩ = some (.bool s) ∧ W.cell? ⟨w.heap.size, 1, none⟩ = some (.slice A xs.length c) ∧ W.cell? ⟨w.heap.size + 1, 0, none⟩ = some (.bool r) ∧ W.cell? ⟨w.heap.size + 1, 1, none⟩ = some (.slice B ys.length d) := by
    rw [hW]
    refine ⟨?_, ?_, ?_, ?_⟩ <;> go_simp
  rw [← hW] at HB0
  rw [← hW]
  have H1 := Lib.hid (h.below HB0.out)
  have H2 := Lib.hid (h'.below HB0.out)
  have hsz : W.heap.size = w.heap.size + 4 := by rw [hW]; simp
  have HR0 := Lib.hid (show W.heap[w.heap.size + 1 + 1]? = some (.cells #[.bool false, .slice none 0 0] 24 (0, 0)) by rw [hW]; have := heap_alloc_new ((w.alloc (.cells #[.bool s, .slice A xs.length c] 24)).alloc (.cells #[.bool r, .slice B ys.length d] 24)) (.cells #[.bool false, .slice none 0 0] 24); rw [heap_alloc_old _ _ (by simp)]; simpa using this)
  have HR1 := Lib.hid (show W.heap[w.heap.size + 1 + 1 + 1]? = some (.cells #[.bool false, .slice none 0 0] 24 (0, 0)) by rw [hW]; have := heap_alloc_new (((w.alloc (.cells #[.bool s, .slice A xs.length c] 24)).alloc (.cells #[.bool r, .slice B ys.length d] 24)).alloc (.cells #[.bool false, .slice none 0 0] 24)) (.cells #[.bool false, .slice none 0 0] 24); simpa using this)
  have HW := Lib.hid hW
  clear hW h h'
  have S0 : w.heap.size < W.heap.size := by omega
  have S1 : w.heap.size + 1 < W.heap.size := by omega
  have HZ := Lib.hid hsz
  clear hsz
  refine two_calls (W := W) rfl 13 14 15 16 7 8 (.agg #[.bool s, .slice A xs.length c]) (.agg #[.bool r, .slice B ys.length d])
    (fun u w' => ∃ A' c', u = .agg #[.slice A' (digs (val xs)).length c', .bool t1] ∧ Dg w' A' c' (digs (val xs)))
    (fun u w' => ∃ A' c', u = .agg #[.slice A' (digs (val ys)).length c', .bool t2] ∧ Dg w' A' c' (digs (val ys)))
    #[.slice none 0 0, .bool false] 46 (fun | .agg us => us | _ => #[])
    rfl (by kernel_rfl) (by kernel_rfl) (by decide) (by kernel_rfl) noint2 ?_ ?_ ?_ ?_ ?_ ?_ ?_ ?_ ?_ ?_ (bd0 W) ?_
  · rintro u w1 w2 ⟨A', c', rfl, hd⟩ hk; exact ⟨A', c', rfl, hd.kept hk⟩
  · rintro u w1 w2 ⟨A', c', rfl, hd⟩ hk; exact ⟨A', c', rfl, hd.kept hk⟩
  · intro a v K hF hb hK
    simp only [wpOp, List.getElem?_toArray, List.getElem?_cons_zero, Region.wanted, if_true]
    refine Or.inl ?_
    have e : a.eval (.tmp 2) = .pointer (some ⟨w.heap.size, 0, none⟩) := hF.2.2 2 (by decide)
    obtain ⟨hc, _⟩ := bcell hb
    simp only [Oper.wp, execOp]
    rw [e]
    go_simp
    exact hK
  · intro a v K hF hb hK
    simp only [wpOp, List.getElem?_toArray, List.getElem?_cons_succ, List.getElem?_cons_zero, Region.wanted, if_true]
    refine Or.inl ?_
    have e : a.eval (.tmp 3) = .pointer (some ⟨w.heap.size + 1, 0, none⟩) := hF.2.2 3 (by decide)
    obtain ⟨hc, _⟩ := bcell hb
    simp only [Oper.wp, execOp]
    rw [e]
    go_simp
    exact hK
  · intro a v K hF hb h1 hK
    simp only [wpOp, List.getElem?_toArray, List.getElem?_cons_succ, List.getElem?_cons_zero, Region.wanted, if_true]
    refine Or.inl ?_
    have e : a.eval (.tmp 13) = .agg #[.bool s, .slice A xs.length c] := h1
    simp only [Oper.wp, execOp]
    go_simp
    refine (TA.out v (H1.out.below hb)).mono ?_
    rintro e w1 ⟨A', c', rfl, hd, hbb⟩
    exact hK _ _ ⟨A', c', rfl, hd⟩ hbb
  · intro a v K hF hb h1 hK
    simp only [wpOp, List.getElem?_toArray, List.getElem?_cons_succ, List.getElem?_cons_zero, Region.wanted, if_true]
    refine Or.inl ?_
    have e : a.eval (.tmp 15) = .agg #[.bool r, .slice B ys.length d] := h1
    simp only [Oper.wp, execOp]
    go_simp
    refine (TB.out v (H2.out.below hb)).mono ?_
    rintro e w1 ⟨A', c', rfl, hd, hbb⟩
    exact hK _ _ ⟨A', c', rfl, hd⟩ hbb
  · intro a v K hF hK
    simp only [wpOp, List.getElem?_toArray, List.getElem?_cons_succ, List.getElem?_cons_zero, Region.wanted, if_true]
    refine Or.inl ?_
    simp only [Oper.wp, execOp]
    go_simp
    exact hK
  · intro a v K hF hK
    simp only [wpOp, List.getElem?_toArray, List.getElem?_cons_succ, List.getElem?_cons_zero, Region.wanted, if_true]
    refine Or.inl ?_
    simp only [Oper.wp, execOp]
    go_simp
    exact hK
  · intro a v K g u hF hx hc hR hg hK
    simp only [wpOp, List.getElem?_toArray, List.getElem?_cons_succ, List.getElem?_cons_zero, Region.wanted, if_true]
    refine Or.inl ?_
    obtain ⟨A', c', rfl, hd⟩ := hR
    have e : a.eval (.tmp 7) = .pointer (some ⟨g, 0, none⟩) := hx
    have e' : a.eval (.tmp 14) = _ := hc
    simp only [Oper.wp, execOp]
    rw [e, e']
    have f0 := cell_of_row v g 0 _ _ _ hg
    have f1 := cell_of_row v g 1 _ _ _ hg
    have z0 := frozen_of_row v g 0 _ _ hg
    have z1 := frozen_of_row v g 1 _ _ hg
    go_simp
    exact hK _ (heap_setCell_same _ _ 1 _ _ _ (heap_setCell_same _ _ 0 _ _ _ hg)) (((Only.refl g v).setCell 0 _).setCell 1 _)
  · intro a v K g u hF hx hc hR hg hK
    simp only [wpOp, List.getElem?_toArray, List.getElem?_cons_succ, List.getElem?_cons_zero, Region.wanted, if_true]
    refine Or.inl ?_
    obtain ⟨A', c', rfl, hd⟩ := hR
    have e : a.eval (.tmp 8) = .pointer (some ⟨g, 0, none⟩) := hx
    have e' : a.eval (.tmp 16) = _ := hc
    simp only [Oper.wp, execOp]
    rw [e, e']
    have f0 := cell_of_row v g 0 _ _ _ hg
    have f1 := cell_of_row v g 1 _ _ _ hg
    have z0 := frozen_of_row v g 0 _ _ hg
    have z1 := frozen_of_row v g 1 _ _ hg
    go_simp
    exact hK _ (heap_setCell_same _ _ 1 _ _ _ (heap_setCell_same _ _ 0 _ _ _ hg)) (((Only.refl g v).setCell 0 _).setCell 1 _)
  · intro a v g1 g2 u1 u2 hF hb h1 h2 hne
    obtain ⟨hl1, hc1, hx1⟩ := h1
    obtain ⟨hl2, hc2, hx2⟩ := h2
    obtain ⟨ec1, A1, c1, rfl, hd1⟩ := hc1 rfl
    obtain ⟨ec2, A2, c2, rfl, hd2⟩ := hc2 rfl
    obtain ⟨ex1, hg1, hs1, hh1⟩ := hx1 rfl
    obtain ⟨ex2, hg2, hs2, hh2⟩ := hx2 rfl
    rw [hF.eq (by kernel_rfl) (hl1 rfl) ec1 (hl2 rfl) ec2 ex1 ex2]
    simp only [if_true] at hh1 hh2
    have HH := Lib.hid (And.intro hh1 hh2)
    have HF := Lib.hid (And.intro (cell_of_row v g1 0 _ _ _ hh1) (And.intro (cell_of_row v g1 1 _ _ _ hh1) (And.intro (cell_of_row v g2 0 _ _ _ hh2) (cell_of_row v g2 1 _ _ _ hh2))))
    have KB := Lib.hid hb
    have D1 := Lib.hid hd1
    have D2 := Lib.hid hd2
    clear hF hb hl1 hc1 hx1 hl2 hc2 hx2 ec1 ec2 ex1 ex2 hh1 hh2 hd1 hd2 hne
    simp only [Act.put, List.setIfInBounds_toArray, List.set_cons_zero, List.set_cons_succ]
    clear TA TB
    have HC := Lib.hid (fun W h1 h2 => divmod_any A1 A2 c1 c2 (digs (val xs)) (digs (val ys)) W h1 h2 (by omega) (by omega) (by rw [val_digs]; exact HY.out))
    simp only [val_digs] at HC
    have b1 := digs_len_mono _ _ (Nat.div_le_self (val xs) (val ys))
    have b2 := digs_len_mono _ _ (Nat.le_of_lt (Nat.mod_lt (val xs) (Nat.pos_of_ne_zero HY.out)))
    have KC := Lib.hid (HB0.out.trans (KB.out.mono HB0.out.size))
    have z1 : (w.heap.size + 1 + 1 : Nat) < v.heap.size := by have := HZ.out; have := KB.out.size; omega
    have z2 : (w.heap.size + 1 + 1 + 1 : Nat) < v.heap.size := by have := HZ.out; have := KB.out.size; omega
    have f1 := HF.out.1
    have f2 := HF.out.2.1
    have f3 := HF.out.2.2.1
    have f4 := HF.out.2.2.2
    simp only [List.getElem?_toArray, List.getElem?_cons_zero, List.getElem?_cons_succ] at f1 f2 f3 f4
    go_wp2_with fail
    refine (HC.out _ D1.out D2.out).mono ?_
    rintro e v1 ⟨A3, c3, B3, d3, rfl, hd3, hd4, hb⟩
    have K1 := Lib.hid hb
    have zv := hb.size
    clear f1 f2 f3 f4 HC
    go_upto_region 6 with fail
    obtain ⟨V, hV⟩ : ∃ V : World, V = (v1.alloc (.cells #[.slice A3 (digs (val xs / val ys)).length c3] 44)).alloc (.cells #[.slice B3 (digs (val xs % val ys)).length d3] 44) := ⟨_, rfl⟩
    rw [← hV]
    have KV := Lib.hid (show Below v1.heap.size v1 V by rw [hV]; exact below2 _ _ _)
    have RV := Lib.hid (show V.heap[v1.heap.size]? = some (.cells #[.slice A3 (digs (val xs / val ys)).length c3] 44 (0, 0)) ∧ V.heap[v1.heap.size + 1]? = some (.cells #[.slice B3 (digs (val xs % val ys)).length d3] 44 (0, 0)) ∧ V.heap[g1]? = some (.cells #[.slice A1 (digs (val xs)).length c1, .bool t1] 46 (0, 0)) ∧ V.heap[g2]? = some (.cells #[.slice A2 (digs (val ys)).length c2, .bool t2] 46 (0, 0)) by
      refine ⟨?_, ?_, ?_, ?_⟩
      · rw [hV]; exact heap_alloc2_old _ _ _
      · rw [hV]; exact heap_alloc2_new _ _ _
      · exact cells_of (cells_of HH.out.1 K1.out) KV.out
      · exact cells_of (cells_of HH.out.2 K1.out) KV.out)
    have D3 := Lib.hid (hd3.below KV.out)
    have D4 := Lib.hid (hd4.below KV.out)
    have DY := Lib.hid ((D2.out.below K1.out).below KV.out)
    have KW := Lib.hid (KB.out.trans ((K1.out.trans (KV.out.mono K1.out.size)).mono KB.out.size))
    have y1 : v1.heap.size < V.heap.size := heap_lt RV.out.1
    have y2 : v1.heap.size + 1 < V.heap.size := heap_lt RV.out.2.1
    have y3 : g1 < V.heap.size := heap_lt RV.out.2.2.1
    have y4 : g2 < V.heap.size := heap_lt RV.out.2.2.2
    have n1 := Lib.hid (show v1.heap.size ≠ w.heap.size + 1 + 1 ∧ v1.heap.size ≠ w.heap.size + 1 + 1 + 1 ∧ v1.heap.size + 1 ≠ w.heap.size + 1 + 1 ∧ v1.heap.size + 1 ≠ w.heap.size + 1 + 1 + 1 ∧ g1 ≠ w.heap.size + 1 + 1 ∧ g1 ≠ w.heap.size + 1 + 1 + 1 ∧ g2 ≠ w.heap.size + 1 + 1 ∧ g2 ≠ w.heap.size + 1 + 1 + 1 ∧ g2 ≠ v1.heap.size ∧ g2 ≠ v1.heap.size + 1 by have := HZ.out; have := KB.out.size; omega)
    clear hV hd3 hd4 hb D1 D2 HF HH H1 H2 KV K1
    cases ht : (t1 != t2)
    · have et : t1 = t2 := by simpa using ht
      have ET := Lib.hid et
      clear et
      have f1 := cell_of_row V _ 1 _ _ _ RV.out.2.2.1
      have f2 := cell_of_row V _ 1 _ _ _ RV.out.2.2.2
      simp only [List.getElem?_toArray, List.getElem?_cons_zero, List.getElem?_cons_succ] at f1 f2
      have RX := RV
      have KX := KW
      have x1 := y1
      have x2 := y2
      have x3 := y3
      have x4 := y4
      go_wp2_with fail
      clear f1 f2
      clear RV
      have f1 := cell_of_row V _ 0 _ _ _ RX.out.1
      have f2 := cell_of_row V _ 0 _ _ _ RX.out.2.1
      have f3 := cell_of_row V _ 1 _ _ _ RX.out.2.2.1
      have f4 := cell_of_row V _ 1 _ _ _ RX.out.2.2.2
      simp only [List.getElem?_toArray, List.getElem?_cons_zero, List.getElem?_cons_succ] at f1 f2 f3 f4
      have HS8 := Lib.hid (And.intro f1 (And.intro f2 (And.intro f3 f4)))
      clear f1 f2 f3 f4
      have KD := Lib.hid (below_drew (Below.refl V.heap.size V))
      go_region_held3 (fun w' => w'.cell? ⟨v1.heap.size, 0, none⟩ = some (.slice A3 (digs (val xs / val ys)).length c3) ∧ w'.cell? ⟨v1.heap.size + 1, 0, none⟩ = some (.slice B3 (digs (val xs % val ys)).length d3) ∧ w'.cell? ⟨g1, 1, none⟩ = some (.bool t1) ∧ w'.cell? ⟨g2, 1, none⟩ = some (.bool t2))
        (first | with_reducible exact HS8.out | with_reducible exact carry4 KD.out HS8.out x1 x2 x3 x4 | with_reducible exact carry4 L1.out HS8.out x1 x2 x3 x4 | with_reducible exact carry4 L2.out HS8.out x1 x2 x3 x4 | with_reducible exact set4 (set4 (carry4 L2.out HS8.out x1 x2 x3 x4) n1.out.1 n1.out.2.2.1 n1.out.2.2.2.2.1 n1.out.2.2.2.2.2.2.1) n1.out.1 n1.out.2.2.1 n1.out.2.2.2.2.1 n1.out.2.2.2.2.2.2.1 | with_reducible exact set4 (set4 (set4 (set4 (carry4 L2.out HS8.out x1 x2 x3 x4) n1.out.1 n1.out.2.2.1 n1.out.2.2.2.2.1 n1.out.2.2.2.2.2.2.1) n1.out.1 n1.out.2.2.1 n1.out.2.2.2.2.1 n1.out.2.2.2.2.2.2.1) n1.out.2.1 n1.out.2.2.2.1 n1.out.2.2.2.2.2.1 n1.out.2.2.2.2.2.2.2.1) n1.out.2.1 n1.out.2.2.2.1 n1.out.2.2.2.2.2.1 n1.out.2.2.2.2.2.2.2.1)
        (first
          | (go_at_call_of 17 A3; (with_reducible refine (give_any A3 c3 (val xs / val ys) false _ (D3.out.below KD.out) (by omega)).mono ?_); rintro e w5 ⟨A5, c5, rfl, hd, hb⟩; (have L1 := Lib.hid (KD.out.trans (hb.mono KD.out.size))); (have G5 := Lib.hid hd); clear hb hd)
          | (go_at_call_of 17 B3; (with_reducible refine (give_any B3 d3 (val xs % val ys) t2 _ (D4.out.below L1.out) (by omega)).mono ?_); rintro e w6 ⟨A6, c6, rfl, hd, hb⟩; (have L2 := Lib.hid (L1.out.trans (hb.mono L1.out.size))); (have G6 := Lib.hid hd); (have G5' := Lib.hid (G5.out.below hb)); (have KA := Lib.hid (KX.out.trans (L2.out.mono KX.out.size))); (have q0 := row_cell HR0.out KA.out 0); (have q1 := row_cell HR0.out KA.out 1); (have q2 := row_cell HR1.out KA.out 0); (have q3 := row_cell HR1.out KA.out 1); (have p0 := row_frozen HR0.out KA.out 0); (have p1 := row_frozen HR0.out KA.out 1); (have p2 := row_frozen HR1.out KA.out 0); (have p3 := row_frozen HR1.out KA.out 1); (simp only [List.getElem?_toArray, List.getElem?_cons_zero, List.getElem?_cons_succ] at q0 q1 q2 q3); (have HO := Lib.hid (And.intro (off_row (g := w.heap.size + 1 + 1) G5'.out KA.out HR0.out noint2') (And.intro (off_row (g := w.heap.size + 1 + 1 + 1) G5'.out KA.out HR1.out noint2') (And.intro (off_row (g := w.heap.size + 1 + 1) hd KA.out HR0.out noint2') (off_row (g := w.heap.size + 1 + 1 + 1) hd KA.out HR1.out noint2'))))); clear hb hd))
      go_wp2
      refine bodyPost_ret (v := .tuple #[.agg #[.bool (false && decide ((val xs / val ys) ≠ 0)), .slice A5 (digs (val xs / val ys)).length c5], .agg #[.bool (t2 && decide ((val xs % val ys) ≠ 0)), .slice A6 (digs (val xs % val ys)).length c6], .bool true]) (by simp [results, Tryd.results14, go_sem, q0, q1, q2, q3]) rfl ?_
      refine zr2_give (by rw [← E1.out, ← E2.out]; exact (by rw [ET.out]; exact fd_same.1)) (by rw [← E1.out, ← E2.out]; exact (by rw [ET.out]; exact fd_same.2)) ((((G5'.out.set_off HO.out.1 _ _).set_off HO.out.1 _ _).set_off HO.out.2.1 _ _).set_off HO.out.2.1 _ _) ((((G6.out.set_off HO.out.2.2.1 _ _).set_off HO.out.2.2.1 _ _).set_off HO.out.2.2.2 _ _).set_off HO.out.2.2.2 _ _) ?_
      exact (((((HB0.out.trans (KA.out.mono HB0.out.size)).setCell (by simp; omega) _).setCell (by simp; omega) _).setCell (by simp; omega) _).setCell (by simp; omega) _)
    · have HT := Lib.hid ht
      have hn0 : ¬ (t1 = t2) := by intro e; rw [e] at ht; simp at ht
      by_cases hk : val xs % val ys = 0
      · have HK := Lib.hid hk
        clear hk
        have f1 := cell_of_row V _ 1 _ _ _ RV.out.2.2.1
        have f2 := cell_of_row V _ 1 _ _ _ RV.out.2.2.2
        have f3 := cell_of_row V _ 0 _ _ _ RV.out.2.1
        simp only [List.getElem?_toArray, List.getElem?_cons_zero, List.getElem?_cons_succ] at f1 f2 f3
        go_wp2_with fail
        refine (zero_any B3 (digs (val xs % val ys)).length d3 _ true (by rw [HK.out, digs_zero]; rfl)).mono ?_
        rintro e v2 ⟨rfl, hb⟩
        have KZ := Lib.hid hb
        have KX := Lib.hid (KW.out.trans (KZ.out.mono KW.out.size))
        have RX := Lib.hid (And.intro (cells_of RV.out.1 KZ.out) (And.intro (cells_of RV.out.2.1 KZ.out) (And.intro (cells_of RV.out.2.2.1 KZ.out) (cells_of RV.out.2.2.2 KZ.out))))
        clear hb f1 f2 f3
        have x1 := heap_lt RX.out.1
        have x2 := heap_lt RX.out.2.1
        have x3 := heap_lt RX.out.2.2.1
        have x4 := heap_lt RX.out.2.2.2
        have f1 := cell_of_row v2 _ 1 _ _ _ RX.out.2.2.1
        have f2 := cell_of_row v2 _ 1 _ _ _ RX.out.2.2.2
        simp only [List.getElem?_toArray, List.getElem?_cons_zero, List.getElem?_cons_succ] at f1 f2
        go_wp2_with fail
        clear f1 f2
        clear RV
        have f1 := cell_of_row v2 _ 0 _ _ _ RX.out.1
        have f2 := cell_of_row v2 _ 0 _ _ _ RX.out.2.1
        have f3 := cell_of_row v2 _ 1 _ _ _ RX.out.2.2.1
        have f4 := cell_of_row v2 _ 1 _ _ _ RX.out.2.2.2
        simp only [List.getElem?_toArray, List.getElem?_cons_zero, List.getElem?_cons_succ] at f1 f2 f3 f4
        have HS8 := Lib.hid (And.intro f1 (And.intro f2 (And.intro f3 f4)))
        clear f1 f2 f3 f4
        have KD := Lib.hid (below_drew (Below.refl v2.heap.size v2))
        go_region_held3 (fun w' => w'.cell? ⟨v1.heap.size, 0, none⟩ = some (.slice A3 (digs (val xs / val ys)).length c3) ∧ w'.cell? ⟨v1.heap.size + 1, 0, none⟩ = some (.slice B3 (digs (val xs % val ys)).length d3) ∧ w'.cell? ⟨g1, 1, none⟩ = some (.bool t1) ∧ w'.cell? ⟨g2, 1, none⟩ = some (.bool t2))
          (first | with_reducible exact HS8.out | with_reducible exact carry4 KD.out HS8.out x1 x2 x3 x4 | with_reducible exact carry4 L1.out HS8.out x1 x2 x3 x4 | with_reducible exact carry4 L2.out HS8.out x1 x2 x3 x4 | with_reducible exact set4 (set4 (carry4 L2.out HS8.out x1 x2 x3 x4) n1.out.1 n1.out.2.2.1 n1.out.2.2.2.2.1 n1.out.2.2.2.2.2.2.1) n1.out.1 n1.out.2.2.1 n1.out.2.2.2.2.1 n1.out.2.2.2.2.2.2.1 | with_reducible exact set4 (set4 (set4 (set4 (carry4 L2.out HS8.out x1 x2 x3 x4) n1.out.1 n1.out.2.2.1 n1.out.2.2.2.2.1 n1.out.2.2.2.2.2.2.1) n1.out.1 n1.out.2.2.1 n1.out.2.2.2.2.1 n1.out.2.2.2.2.2.2.1) n1.out.2.1 n1.out.2.2.2.1 n1.out.2.2.2.2.2.1 n1.out.2.2.2.2.2.2.2.1) n1.out.2.1 n1.out.2.2.2.1 n1.out.2.2.2.2.2.1 n1.out.2.2.2.2.2.2.2.1)
          (first
            | (go_at_call_of 17 A3; (with_reducible refine (give_any A3 c3 (val xs / val ys) _ _ ((D3.out.below KZ.out).below KD.out) (by omega)).mono ?_); rintro e w5 ⟨A5, c5, rfl, hd, hb⟩; (have L1 := Lib.hid (KD.out.trans (hb.mono KD.out.size))); (have G5 := Lib.hid hd); clear hb hd)
            | (go_at_call_of 17 B3; (with_reducible refine (give_any B3 d3 (val xs % val ys) t2 _ ((D4.out.below KZ.out).below L1.out) (by omega)).mono ?_); rintro e w6 ⟨A6, c6, rfl, hd, hb⟩; (have L2 := Lib.hid (L1.out.trans (hb.mono L1.out.size))); (have G6 := Lib.hid hd); (have G5' := Lib.hid (G5.out.below hb)); (have KA := Lib.hid (KX.out.trans (L2.out.mono KX.out.size))); (have q0 := row_cell HR0.out KA.out 0); (have q1 := row_cell HR0.out KA.out 1); (have q2 := row_cell HR1.out KA.out 0); (have q3 := row_cell HR1.out KA.out 1); (have p0 := row_frozen HR0.out KA.out 0); (have p1 := row_frozen HR0.out KA.out 1); (have p2 := row_frozen HR1.out KA.out 0); (have p3 := row_frozen HR1.out KA.out 1); (simp only [List.getElem?_toArray, List.getElem?_cons_zero, List.getElem?_cons_succ] at q0 q1 q2 q3); (have HO := Lib.hid (And.intro (off_row (g := w.heap.size + 1 + 1) G5'.out KA.out HR0.out noint2') (And.intro (off_row (g := w.heap.size + 1 + 1 + 1) G5'.out KA.out HR1.out noint2') (And.intro (off_row (g := w.heap.size + 1 + 1) hd KA.out HR0.out noint2') (off_row (g := w.heap.size + 1 + 1 + 1) hd KA.out HR1.out noint2'))))); clear hb hd))
        go_wp2
        refine bodyPost_ret (v := .tuple #[.agg #[.bool (true && decide ((val xs / val ys) ≠ 0)), .slice A5 (digs (val xs / val ys)).length c5], .agg #[.bool (t2 && decide ((val xs % val ys) ≠ 0)), .slice A6 (digs (val xs % val ys)).length c6], .bool true]) (by simp [results, Tryd.results14, go_sem, q0, q1, q2, q3, hn0]) rfl ?_
        refine zr2_give (by rw [← E1.out, ← E2.out]; exact (fd_exact HT.out HY.out HK.out).1) (by rw [← E1.out, ← E2.out]; exact (fd_exact HT.out HY.out HK.out).2) ((((G5'.out.set_off HO.out.1 _ _).set_off HO.out.1 _ _).set_off HO.out.2.1 _ _).set_off HO.out.2.1 _ _) ((((G6.out.set_off HO.out.2.2.1 _ _).set_off HO.out.2.2.1 _ _).set_off HO.out.2.2.2 _ _).set_off HO.out.2.2.2 _ _) ?_
        exact (((((HB0.out.trans (KA.out.mono HB0.out.size)).setCell (by simp; omega) _).setCell (by simp; omega) _).setCell (by simp; omega) _).setCell (by simp; omega) _)
      · have HK := Lib.hid hk
        have hkn : (digs (val xs % val ys)).length ≠ 0 := fun e => HK.out (digs_nil.1 e)
        have HKN := Lib.hid hkn
        clear hk hkn
        have f1 := cell_of_row V _ 1 _ _ _ RV.out.2.2.1
        have f2 := cell_of_row V _ 1 _ _ _ RV.out.2.2.2
        have f3 := cell_of_row V _ 0 _ _ _ RV.out.2.1
        simp only [List.getElem?_toArray, List.getElem?_cons_zero, List.getElem?_cons_succ] at f1 f2 f3
        go_wp2_with fail
        refine (zero_any B3 (digs (val xs % val ys)).length d3 _ false (len_ne HKN.out)).mono ?_
        rintro e v2 ⟨rfl, hb⟩
        have KZ := Lib.hid hb
        have KX := Lib.hid (KW.out.trans (KZ.out.mono KW.out.size))
        have RX := Lib.hid (And.intro (cells_of RV.out.1 KZ.out) (And.intro (cells_of RV.out.2.1 KZ.out) (And.intro (cells_of RV.out.2.2.1 KZ.out) (cells_of RV.out.2.2.2 KZ.out))))
        clear hb f1 f2 f3
        have x1 := heap_lt RX.out.1
        have x2 := heap_lt RX.out.2.1
        have x3 := heap_lt RX.out.2.2.1
        have x4 := heap_lt RX.out.2.2.2
        have f1 := cell_of_row v2 _ 1 _ _ _ RX.out.2.2.1
        have f2 := cell_of_row v2 _ 1 _ _ _ RX.out.2.2.2
        have f3 := cell_of_row v2 _ 0 _ _ _ RX.out.2.2.2
        simp only [List.getElem?_toArray, List.getElem?_cons_zero, List.getElem?_cons_succ] at f1 f2 f3
        go_wp2_with fail
        clear f1 f2 f3
        have E3 := Lib.hid (D3.out.below KZ.out)
        have E4 := Lib.hid (D4.out.below KZ.out)
        have EY := Lib.hid (DY.out.below KZ.out)
        have MA := Lib.hid (fun U h => more_any A3 c3 (val xs / val ys) U h (by omega))
        have MB := Lib.hid (fun U h h' => without_any A2 B3 c2 d3 (val ys) (val xs % val ys) U h h' (by omega) (by omega) (Nat.le_of_lt (Nat.mod_lt (val xs) (Nat.pos_of_ne_zero HY.out))))
        refine wp_operands (W := v2) rfl 6 [46, 47, 48, 49, 50, 51] (fun i u x => match i with | 0 => u = .agg #[.slice A3 (digs (val xs / val ys)).length c3] | 1 => ∃ A' c', u = .agg #[.slice A' (digs (val xs / val ys + 1)).length c'] ∧ Dg x A' c' (digs (val xs / val ys + 1)) | 2 => u = .pointer (some ⟨g2, 0, none⟩) | 3 => u = .agg #[.slice A2 (digs (val ys)).length c2] | 4 => u = .agg #[.slice B3 (digs (val xs % val ys)).length d3] | 5 => ∃ A' c', u = .agg #[.slice A' (digs (val ys - val xs % val ys)).length c'] ∧ Dg x A' c' (digs (val ys - val xs % val ys)) | _ => True) (fun _ => false)
          (by decide) rfl (by kernel_rfl) (by kernel_rfl) (by decide) (by kernel_rfl) ?_ (fun _ _ _ h => by cases h) ?_ ?_
        · intro i u x x' hi hR hb
          have hi' : i = 0 ∨ i = 1 ∨ i = 2 ∨ i = 3 ∨ i = 4 ∨ i = 5 := by omega
          rcases hi' with rfl | rfl | rfl | rfl | rfl | rfl
          · exact hR
          · obtain ⟨A', c', e, hd⟩ := hR; exact ⟨A', c', e, hd.below hb⟩
          · exact hR
          · exact hR
          · exact hR
          · obtain ⟨A', c', e, hd⟩ := hR; exact ⟨A', c', e, hd.below hb⟩
        · intro i a x K hi hF hb hw hK
          have hi' : i = 0 ∨ i = 1 ∨ i = 2 ∨ i = 3 ∨ i = 4 ∨ i = 5 := by omega
          rcases hi' with rfl | rfl | rfl | rfl | rfl | rfl
          · simp only [wpOp, List.getElem?_toArray, List.getElem?_cons_zero, Region.wanted, if_true]
            refine Or.inl ?_
            have e : a.eval (.tmp 11) = .pointer (some ⟨v1.heap.size, 0, none⟩) := hF.2.2 11 (by decide)
            have f := row_cell RX.out.1 hb 0
            simp only [List.getElem?_toArray, List.getElem?_cons_zero] at f
            clear hw hF
            simp only [Oper.wp, execOp]
            rw [e]
            go_simp
            exact hK _ x rfl (Below.refl _ _) (fun h => by cases h)
          · simp only [wpOp, List.getElem?_toArray, List.getElem?_cons_succ, List.getElem?_cons_zero, Region.wanted, if_true]
            refine Or.inl ?_
            have e : a.tmps.getD 46 undef = .agg #[.slice A3 (digs (val xs / val ys)).length c3] := hw 0 (by kernel_rfl)
            clear hw hF
            simp only [Oper.wp, execOp]
            go_simp
            refine (MA.out x (E3.out.below hb)).mono ?_
            rintro e y ⟨A', c', rfl, hd, hbb⟩
            exact hK _ y ⟨A', c', rfl, hd⟩ hbb (fun h => by cases h)
          · simp only [wpOp, List.getElem?_toArray, List.getElem?_cons_succ, List.getElem?_cons_zero, Region.wanted, if_true]
            refine Or.inl ?_
            have e : a.eval (.tmp 8) = .pointer (some ⟨g2, 0, none⟩) := hF.2.2 8 (by decide)
            clear hw hF
            simp only [Oper.wp, execOp]
            rw [e]
            go_simp
            exact hK _ x rfl (Below.refl _ _) (fun h => by cases h)
          · simp only [wpOp, List.getElem?_toArray, List.getElem?_cons_succ, List.getElem?_cons_zero, Region.wanted, if_true]
            refine Or.inl ?_
            have e : a.eval (.tmp 48) = .pointer (some ⟨g2, 0, none⟩) := hw 2 (by kernel_rfl)
            have f := row_cell RX.out.2.2.2 hb 0
            simp only [List.getElem?_toArray, List.getElem?_cons_zero] at f
            clear hw hF
            simp only [Oper.wp, execOp]
            rw [e]
            go_simp
            exact hK _ x rfl (Below.refl _ _) (fun h => by cases h)
          · simp only [wpOp, List.getElem?_toArray, List.getElem?_cons_succ, List.getElem?_cons_zero, Region.wanted, if_true]
            refine Or.inl ?_
            have e : a.eval (.tmp 12) = .pointer (some ⟨v1.heap.size + 1, 0, none⟩) := hF.2.2 12 (by decide)
            have f := row_cell RX.out.2.1 hb 0
            simp only [List.getElem?_toArray, List.getElem?_cons_zero] at f
            clear hw hF
            simp only [Oper.wp, execOp]
            rw [e]
            go_simp
            exact hK _ x rfl (Below.refl _ _) (fun h => by cases h)
          · simp only [wpOp, List.getElem?_toArray, List.getElem?_cons_succ, List.getElem?_cons_zero, Region.wanted, if_true]
            refine Or.inl ?_
            have e : a.tmps.getD 49 undef = .agg #[.slice A2 (digs (val ys)).length c2] := hw 3 (by kernel_rfl)
            have e' : a.tmps.getD 50 undef = .agg #[.slice B3 (digs (val xs % val ys)).length d3] := hw 4 (by kernel_rfl)
            clear hw hF
            simp only [Oper.wp, execOp]
            go_simp
            refine (MB.out x (EY.out.below hb) (E4.out.below hb)).mono ?_
            rintro e y ⟨A', c', rfl, hd, hbb⟩
            exact hK _ y ⟨A', c', rfl, hd⟩ hbb (fun h => by cases h)
        · intro a x hF hb hR _
          obtain ⟨A7, c7, e7, hd7⟩ := hR 1 (by decide)
          obtain ⟨A8, c8, e8, hd8⟩ := hR 5 (by decide)
          have e0 : a.tmps.getD 46 undef = .agg #[.slice A3 (digs (val xs / val ys)).length c3] := hR 0 (by decide)
          have e1 : a.tmps.getD 47 undef = .agg #[.slice A7 (digs (val xs / val ys + 1)).length c7] := e7
          have e2 : a.tmps.getD 48 undef = .pointer (some ⟨g2, 0, none⟩) := hR 2 (by decide)
          have e3 : a.tmps.getD 49 undef = .agg #[.slice A2 (digs (val ys)).length c2] := hR 3 (by decide)
          have e4 : a.tmps.getD 50 undef = .agg #[.slice B3 (digs (val xs % val ys)).length d3] := hR 4 (by decide)
          have e5 : a.tmps.getD 51 undef = .agg #[.slice A8 (digs (val ys - val xs % val ys)).length c8] := e8
          rw [hF.fold (by kernel_rfl)]
          simp only [List.foldl_cons, List.foldl_nil, e0, e1, e2, e3, e4, e5]
          simp only [Act.put, List.setIfInBounds_toArray, List.set_cons_zero, List.set_cons_succ]
          change wpOps _ _ _ [6, 7] _ _
          simp only [wpOps_cons]
          clear e0 e1 e2 e3 e4 e5 e7 e8 hR hF
          have rx0 := cells_of RX.out.1 hb
          have rx1 := cells_of RX.out.2.1 hb
          have w0 := cell_of_row x _ 0 _ _ _ rx0
          have w1 := cell_of_row x _ 0 _ _ _ rx1
          simp only [List.getElem?_toArray, List.getElem?_cons_zero] at w0 w1
          have o0 := frozen_of_row x _ 0 _ _ rx0
          have o1 := frozen_of_row x _ 0 _ _ rx1
          have HH0 := Lib.hid (And.intro rx0 rx1)
          have HHB := Lib.hid hb
          have HD7 := Lib.hid (And.intro hd7 hd8)
          clear rx0 rx1 hb hd7 hd8
          simp only [wpOp, List.getElem?_toArray, List.getElem?_cons_succ, List.getElem?_cons_zero, Region.wanted, if_true]
          refine Or.inl ?_
          simp only [Oper.wp, execOp]
          go_simp
          rw [wpOps_cons]
          simp only [wpOp, List.getElem?_toArray, List.getElem?_cons_succ, List.getElem?_cons_zero, Region.wanted, if_true]
          refine Or.inl ?_
          simp only [Oper.wp, execOp]
          go_simp
          try simp only [wpOps]
          obtain ⟨V3, hV3⟩ : ∃ V3 : World, V3 = (x.setCell ⟨v1.heap.size, 0, none⟩ (.slice A7 (digs (val xs / val ys + 1)).length c7)).setCell ⟨v1.heap.size + 1, 0, none⟩ (.slice A8 (digs (val ys - val xs % val ys)).length c8) := ⟨_, rfl⟩
          rw [← hV3]
          have r0 := heap_setCell_same x _ 0 _ _ (.slice A7 (digs (val xs / val ys + 1)).length c7) HH0.out.1
          have r1p := (heap_setCell_other x ⟨v1.heap.size, 0, none⟩ (v1.heap.size + 1) (.slice A7 (digs (val xs / val ys + 1)).length c7) (by simp)).trans HH0.out.2
          have gg1 : g1 < v1.heap.size := by omega
          have gg2 : g2 < v1.heap.size := by omega
          have RY := Lib.hid (show V3.heap[v1.heap.size]? = some (.cells #[.slice A7 (digs (val xs / val ys + 1)).length c7] 44 (0, 0)) ∧ V3.heap[v1.heap.size + 1]? = some (.cells #[.slice A8 (digs (val ys - val xs % val ys)).length c8] 44 (0, 0)) ∧ V3.heap[g1]? = some (.cells #[.slice A1 (digs (val xs)).length c1, .bool t1] 46 (0, 0)) ∧ V3.heap[g2]? = some (.cells #[.slice A2 (digs (val ys)).length c2, .bool t2] 46 (0, 0)) by
            rw [hV3]
            exact ⟨(heap_setCell_other _ _ _ _ (by simp)).trans r0, heap_setCell_same _ _ 0 _ _ _ r1p, (heap_setCell_other _ _ _ _ (by simp; omega)).trans ((heap_setCell_other _ _ _ _ (by simp; omega)).trans (cells_of RX.out.2.2.1 HHB.out)), (heap_setCell_other _ _ _ _ (by simp; omega)).trans ((heap_setCell_other _ _ _ _ (by simp; omega)).trans (cells_of RX.out.2.2.2 HHB.out))⟩)
          have KPT : Kept x V3 := by rw [hV3]; exact (((Only.refl _ x).setCell 0 _).kept HH0.out.1 noint1).trans (((Only.refl _ _).setCell 0 _).kept r1p noint1)
          have F7 := Lib.hid (HD7.out.1.kept KPT)
          have F8 := Lib.hid (HD7.out.2.kept KPT)
          have KX3 := Lib.hid (show Below W.heap.size W V3 by rw [hV3]; exact ((KX.out.trans (HHB.out.mono KX.out.size)).setCell (by have := KB.out.size; simp; omega) _).setCell (by have := KB.out.size; simp; omega) _)
          have b3 := digs_add_len (val xs / val ys) 1
          have b4 := digs_sub_len (val ys) (val xs % val ys)
          have b5 : (digs 1).length ≤ 1 := by rw [digs_one (by omega) (by omega)]; simp
          clear hV3 r0 r1p KPT HD7 w0 w1 o0 o1 x1 x2 x3 x4 RX
          have x1 := heap_lt RY.out.1
          have x2 := heap_lt RY.out.2.1
          have x3 := heap_lt RY.out.2.2.1
          have x4 := heap_lt RY.out.2.2.2
          have f1 := cell_of_row V3 _ 1 _ _ _ RY.out.2.2.1
          have f2 := cell_of_row V3 _ 1 _ _ _ RY.out.2.2.2
          simp only [List.getElem?_toArray, List.getElem?_cons_zero, List.getElem?_cons_succ] at f1 f2
          go_wp2_with fail
          clear f1 f2
          clear RV
          have f1 := cell_of_row V3 _ 0 _ _ _ RY.out.1
          have f2 := cell_of_row V3 _ 0 _ _ _ RY.out.2.1
          have f3 := cell_of_row V3 _ 1 _ _ _ RY.out.2.2.1
          have f4 := cell_of_row V3 _ 1 _ _ _ RY.out.2.2.2
          simp only [List.getElem?_toArray, List.getElem?_cons_zero, List.getElem?_cons_succ] at f1 f2 f3 f4
          have HS8 := Lib.hid (And.intro f1 (And.intro f2 (And.intro f3 f4)))
          clear f1 f2 f3 f4
          have KD := Lib.hid (below_drew (Below.refl V3.heap.size V3))
          go_region_held3 (fun w' => w'.cell? ⟨v1.heap.size, 0, none⟩ = some (.slice A7 (digs (val xs / val ys + 1)).length c7) ∧ w'.cell? ⟨v1.heap.size + 1, 0, none⟩ = some (.slice A8 (digs (val ys - val xs % val ys)).length c8) ∧ w'.cell? ⟨g1, 1, none⟩ = some (.bool t1) ∧ w'.cell? ⟨g2, 1, none⟩ = some (.bool t2))
            (first | with_reducible exact HS8.out | with_reducible exact carry4 KD.out HS8.out x1 x2 x3 x4 | with_reducible exact carry4 L1.out HS8.out x1 x2 x3 x4 | with_reducible exact carry4 L2.out HS8.out x1 x2 x3 x4 | with_reducible exact set4 (set4 (carry4 L2.out HS8.out x1 x2 x3 x4) n1.out.1 n1.out.2.2.1 n1.out.2.2.2.2.1 n1.out.2.2.2.2.2.2.1) n1.out.1 n1.out.2.2.1 n1.out.2.2.2.2.1 n1.out.2.2.2.2.2.2.1 | with_reducible exact set4 (set4 (set4 (set4 (carry4 L2.out HS8.out x1 x2 x3 x4) n1.out.1 n1.out.2.2.1 n1.out.2.2.2.2.1 n1.out.2.2.2.2.2.2.1) n1.out.1 n1.out.2.2.1 n1.out.2.2.2.2.1 n1.out.2.2.2.2.2.2.1) n1.out.2.1 n1.out.2.2.2.1 n1.out.2.2.2.2.2.1 n1.out.2.2.2.2.2.2.2.1) n1.out.2.1 n1.out.2.2.2.1 n1.out.2.2.2.2.2.1 n1.out.2.2.2.2.2.2.2.1)
            (first
              | (go_at_call_of 17 A7; (with_reducible refine (give_any A7 c7 (val xs / val ys + 1) _ _ (F7.out.below KD.out) (by omega)).mono ?_); rintro e w5 ⟨A5, c5, rfl, hd, hb⟩; (have L1 := Lib.hid (KD.out.trans (hb.mono KD.out.size))); (have G5 := Lib.hid hd); clear hb hd)
              | (go_at_call_of 17 A8; (with_reducible refine (give_any A8 c8 (val ys - val xs % val ys) t2 _ (F8.out.below L1.out) (by omega)).mono ?_); rintro e w6 ⟨A6, c6, rfl, hd, hb⟩; (have L2 := Lib.hid (L1.out.trans (hb.mono L1.out.size))); (have G6 := Lib.hid hd); (have G5' := Lib.hid (G5.out.below hb)); (have KA := Lib.hid (KX3.out.trans (L2.out.mono KX3.out.size))); (have q0 := row_cell HR0.out KA.out 0); (have q1 := row_cell HR0.out KA.out 1); (have q2 := row_cell HR1.out KA.out 0); (have q3 := row_cell HR1.out KA.out 1); (have p0 := row_frozen HR0.out KA.out 0); (have p1 := row_frozen HR0.out KA.out 1); (have p2 := row_frozen HR1.out KA.out 0); (have p3 := row_frozen HR1.out KA.out 1); (simp only [List.getElem?_toArray, List.getElem?_cons_zero, List.getElem?_cons_succ] at q0 q1 q2 q3); (have HO := Lib.hid (And.intro (off_row (g := w.heap.size + 1 + 1) G5'.out KA.out HR0.out noint2') (And.intro (off_row (g := w.heap.size + 1 + 1 + 1) G5'.out KA.out HR1.out noint2') (And.intro (off_row (g := w.heap.size + 1 + 1) hd KA.out HR0.out noint2') (off_row (g := w.heap.size + 1 + 1 + 1) hd KA.out HR1.out noint2'))))); clear hb hd))
          go_wp2
          refine bodyPost_ret (v := .tuple #[.agg #[.bool (true && decide ((val xs / val ys + 1) ≠ 0)), .slice A5 (digs (val xs / val ys + 1)).length c5], .agg #[.bool (t2 && decide ((val ys - val xs % val ys) ≠ 0)), .slice A6 (digs (val ys - val xs % val ys)).length c6], .bool true]) (by simp [results, Tryd.results14, go_sem, q0, q1, q2, q3, hn0]) rfl ?_
          refine zr2_give (by rw [← E1.out, ← E2.out]; exact (fd_more HT.out HY.out HK.out).1) (by rw [← E1.out, ← E2.out]; exact (fd_more HT.out HY.out HK.out).2) ((((G5'.out.set_off HO.out.1 _ _).set_off HO.out.1 _ _).set_off HO.out.2.1 _ _).set_off HO.out.2.1 _ _) ((((G6.out.set_off HO.out.2.2.1 _ _).set_off HO.out.2.2.1 _ _).set_off HO.out.2.2.2 _ _).set_off HO.out.2.2.2 _ _) ?_
          exact (((((HB0.out.trans (KA.out.mono HB0.out.size)).setCell (by simp; omega) _).setCell (by simp; omega) _).setCell (by simp; omega) _).setCell (by simp; omega) _)
end Go.Proofs.YtcciibejachjkaaDoor
end

section
/-
  zint.Text of a number of one part.
-/
namespace Go.Proofs.YtcciibejachjkaaDoor
open Go.RowKit Go.Sort
theorem elem9_info : (Tryd.prog.info? 9).map (fun i => (i.zero, i.size, i.bytes)) = some (some (.string ⟨#[]⟩), 1, 16) := by kernel_rfl
theorem one_new {w : World} {a : Value} {T : TypeId} {j : Nat} {u : Value} (hj : [a][j]? = some u) : (w.alloc (.cells #[a] T)).cell? ((⟨w.heap.size, 0, none⟩ : Addr).add j) = some u := by
  rw [Addr.add_lit, Nat.zero_add, cell_of_row _ _ _ _ _ _ (heap_alloc_new w _)]
  simpa using hj
theorem p10_below {w w' : World} (h : P10 w) (hb : Below w.heap.size w w') : P10 w' := Lib.tabBelow_of_tabIs h w' hb
def textOne (s : Bool) (x : Nat) : List UInt8 := (if s then [45] else []) ++ Lib.decDigits x
def lenOf : Value → Nat
  | .slice _ n _ => n
  | _ => 0
set_option maxHeartbeats 4000000 in
set_option maxRecDepth 100000 in
theorem ztext_one (A : Option Addr) (c : Nat) (s : Bool) (xs : List Nat) (w : World) (h : Dg w A c xs) (hl : xs.length ≤ 1000000) (h0 : 0 < val xs) (h1 : val xs < 1000000000) (htab : P10 w) :
    Calls Tryd.prog 9 #[.agg #[.bool s, .slice A xs.length c]] w fun e w' => e = .returned (.string ⟨(textOne s (val xs)).toArray⟩) ∧ Below w.heap.size w w' := by
  obtain ⟨i0, hi, hz0, hz1, hz2⟩ := info_parts elem9_info
  have TA := Lib.hid (fun W h => take_any A c s xs W h (by omega))
  have e1 : (s && decide (0 < val xs)) = s := by rw [decide_eq_true h0, Bool.and_true]
  rw [e1] at TA
  clear e1
  have HT := Lib.hid htab
  clear htab
  obtain ⟨x, hx⟩ : ∃ x, val xs = x := ⟨_, rfl⟩
  rw [hx] at TA h0 h1
  rw [hx]
  clear hx
  have d1 := digs_one (a := x) (by omega) (by omega)
  have EX := Lib.hid d1
  have hq0 : ((1 : Int) == 0) = false := rfl
  have D10 := digs_one (a := 1000000000) (by omega) (by omega)
  have DM := Lib.hid (fun (A1 B : Option Addr) (c1 d2 : Nat) (V : World) (h1 : Dg V A1 c1 (digs x)) (h2 : Dg V B d2 (digs 1000000000)) => divmod_any A1 B c1 d2 (digs x) (digs 1000000000) V h1 h2 (by rw [d1]; simp) (by rw [D10]; simp) (by rw [val_digs]; omega))
  simp only [val_digs] at DM
  rw [Nat.div_eq_of_lt h1, Nat.mod_eq_of_lt h1, digs_zero, d1, D10] at DM
  have SM := Lib.hid (fun (A1 : Option Addr) (c1 : Nat) (V : World) (h1 : Dg V A1 c1 (digs x)) => small_any A1 c1 (digs x) V h1 (by rw [d1]; simp))
  simp only [val_digs] at SM
  have hs : small? x = x := by unfold small?; rw [if_pos (by omega)]
  have hdd : decide (x < 18446744073709551616) = true := decide_eq_true (by omega)
  rw [hs, hdd, d1] at SM
  have FM := Lib.hid (fun V hv => fmt_any x h0 (by omega) V hv)
  rw [d1] at TA
  have HB := Lib.hid (And.intro h0 h1)
  clear d1 D10 hs hdd h0 h1
  go_enter Tryd.func9, Tryd.ntmps9
  go_wp2_with fail
  refine (TA.out _ (h.below (below1 _ _))).mono ?_
  rintro e w1 ⟨A1, c1, rfl, hd, hb⟩
  have K1 := Lib.hid ((below1 w _).trans (hb.mono (by simp)))
  have G1 := Lib.hid hd
  clear hb hd h TA
  go_wp2_with fail
  refine (zero_any A1 _ c1 _ false rfl).mono ?_
  rintro e w2 ⟨rfl, hb⟩
  have RX := Lib.hid (cells_of (heap_alloc_new w1 (.cells #[.slice A1 1 c1, .bool s] 46)) hb)
  have K2 := Lib.hid (K1.out.trans (((below1 _ _).trans (hb.mono (by simp))).mono K1.out.size))
  have G2 := Lib.hid ((G1.out.below (below1 w1 (.cells #[.slice A1 1 c1, .bool s] 46))).below hb)
  have z2 := heap_lt RX.out
  have f1 := cell_of_row w2 _ 0 _ _ _ RX.out
  have f2 := cell_of_row w2 _ 1 _ _ _ RX.out
  simp only [List.getElem?_toArray, List.getElem?_cons_zero, List.getElem?_cons_succ] at f1 f2
  clear hb
  go_wp2_with fail
  go_loopw [4, 5] (fun pv lv wr => Hid ((lv = .slice A1 1 c1 ∧ pv = .slice none 0 0 ∧ wr = w2) ∨ (∃ A' c', lv = .slice A' 0 c' ∧ pv ≠ .slice none 0 0 ∧ wr.ownsRow w2.heap.size 9 1 pv 1 ([Lib.decDigits x].map Proofs.encStr) ∧ Below w2.heap.size w2 wr))) (fun _ lv _ => lenOf lv)
  case atStart => exact Lib.hid (.inl ⟨rfl, rfl, rfl⟩)
  case round =>
    rcases hrel.out with ⟨rfl, rfl, rfl⟩ | ⟨A', c', rfl, hne, ho, hb⟩
    · clear hrel
      have HN := Lib.hid (Live.get (A := some ⟨wr.heap.size, 0, none⟩) (c := 1) (xs := [1000000000]) ((live_start wr).new1 1000000000 1000000000 rfl (by omega)) (by simp))
      go_wp2_with fail
      refine (DM.out A1 (some ⟨wr.heap.size, 0, none⟩) c1 1 _ (G2.out.below (below1 _ _)) HN.out).mono ?_
      rintro e w3 ⟨A3, c3, B3, d3, rfl, _, hd3, hb⟩
      have K3 := Lib.hid ((below1 _ _).trans (hb.mono (by simp)))
      have G3 := Lib.hid hd3
      clear hb hd3
      go_wp2_with fail
      refine (SM.out B3 d3 _ G3.out).mono ?_
      rintro e w4 ⟨rfl, nn, rfl⟩
      go_wp2_with fail
      refine (FM.out _ (p10_below HT.out (K2.out.trans ((below_drewN K3.out nn).mono K2.out.size)))).mono ?_
      rintro e w5 ⟨rfl, hb⟩
      have K5 := Lib.hid ((below_drewN K3.out nn).trans (hb.mono K3.out.size))
      have z5 := K5.out.size
      clear hb
      go_wp2_with (at_builtin; refine wpList_append_own _ rfl _ _ 53 rfl wr.heap.size 9 i0 (.string ⟨#[]⟩) 1 16 Tryd.underlying53 hi hz0 hz1 hz2 rfl (by decide) _ _ _ rfl (World.ownsRow_nil _ _ _ _) ⟨w5.heap.size, 0, none⟩ 1 1 [.string ⟨(Lib.decDigits x).toArray⟩] rfl rfl (fun j u hj => one_new hj) (by intro u hu; simp at hu; subst hu; rfl) (by unfold maxLen; omega) (by omega) (by simp; omega) ?_)
      intro v' w6 hown hgrow hnil
      have HO := Lib.hid (And.intro hown (show v' ≠ .slice none 0 0 by intro e; simp [e] at hnil))
      have K6 := Lib.hid ((K5.out.alloc z5 (.cells #[.string ⟨(Lib.decDigits x).toArray⟩] 9)).grown hgrow (by simp; omega) (fun k hk => by cases hk))
      clear hown hgrow hnil
      go_wp2
      go_roundw
      case rel => exact Lib.hid (.inr ⟨_, _, rfl, HO.out.2, by simpa using HO.out.1, K6.out⟩)
      case measure => simp [lenOf]
    · clear hrel
      have HO := Lib.hid (And.intro ho hne)
      have K7 := Lib.hid hb
      have g1 := cell_of_row wr _ 0 _ _ _ (cells_of RX.out hb)
      have g2 := cell_of_row wr _ 1 _ _ _ (cells_of RX.out hb)
      simp only [List.getElem?_toArray, List.getElem?_cons_zero, List.getElem?_cons_succ] at g1 g2
      have z7 := hb.size
      clear ho hne hb f1 f2
      cases s
      · go_wp2_with fail
        refine (rev_own w2.heap.size u4 1 [Lib.decDigits x] _ HO.out.1 HO.out.2 (by omega)).mono ?_
        rintro e w8 ⟨rfl, hown, hb⟩
        have HO8 := Lib.hid hown
        have K8 := Lib.hid (K7.out.trans hb)
        clear hown hb g1 g2
        go_wp2_with fail
        refine (join_own w2.heap.size u4 1 _ _ HO8.out HO.out.2 (by omega) (by simp; rw [Lib.decDigits_length]; have := Lib.nDigits_le20 x (by have := HB.out.2; omega); omega)).mono ?_
        rintro e w9 ⟨rfl, hb⟩
        have K9 := Lib.hid (K2.out.trans ((K8.out.trans (hb.mono K8.out.size)).mono K2.out.size))
        clear hb
        go_wp2
        go_ret
        exact ⟨by simp [textOne], K9.out⟩
      · go_wp2_with (at_builtin; refine wpList_append_own _ rfl _ _ 53 rfl w2.heap.size 9 i0 (.string ⟨#[]⟩) 1 16 Tryd.underlying53 hi hz0 hz1 hz2 rfl (by decide) _ _ _ rfl (HO.out.1.alloc _) ⟨wr.heap.size, 0, none⟩ 1 1 [.string ⟨#[45]⟩] rfl rfl (fun j u hj => one_new hj) (by intro u hu; simp at hu; subst hu; rfl) (by unfold maxLen; omega) (by omega) (by simp; omega) ?_; intro v' w7 hown hgrow hnil; refine Hid.out ?_)
        refine Lib.hid ?_
        have HO7 := Lib.hid (And.intro (show w7.ownsRow w2.heap.size 9 1 v' 2 ([Lib.decDigits x, [45]].map Proofs.encStr) from hown) (show v' ≠ .slice none 0 0 by intro e; simp [e] at hnil))
        have K7b := Lib.hid ((K7.out.alloc z7 (.cells #[.string ⟨#[45]⟩] 9)).grown hgrow (by simp; omega) (fun k hk => (HO.out.1.lt k hk).1))
        clear hown hgrow hnil g1 g2
        go_wp2_with fail
        refine (rev_own w2.heap.size v' 2 [Lib.decDigits x, [45]] _ HO7.out.1 HO7.out.2 (by omega)).mono ?_
        rintro e w8 ⟨rfl, hown, hb⟩
        have HO8 := Lib.hid hown
        have K8 := Lib.hid (K7b.out.trans hb)
        clear hown hb
        go_wp2_with fail
        refine (join_own w2.heap.size v' 2 _ _ HO8.out HO7.out.2 (by omega) (by simp; rw [Lib.decDigits_length]; have := Lib.nDigits_le20 x (by have := HB.out.2; omega); omega)).mono ?_
        rintro e w9 ⟨rfl, hb⟩
        have K9 := Lib.hid (K2.out.trans ((K8.out.trans (hb.mono K8.out.size)).mono K2.out.size))
        clear hb
        go_wp2
        go_ret
        exact ⟨by simp [textOne], K9.out⟩
end Go.Proofs.YtcciibejachjkaaDoor
end

section
/-
  Decimal digits in parts of nine: the arithmetic of zint.Text.
-/
namespace Go.Proofs.YtcciibejachjkaaDoor
open Go.RowKit
/-- k decimal digits of r, with noughts ahead. -/
def padk : Nat → Nat → List UInt8
  | 0, _ => []
  | k + 1, r => padk k (r / 10) ++ [UInt8.ofNat (48 + r % 10)]
theorem padk_len : ∀ (k r : Nat), (padk k r).length = k
  | 0, _ => rfl
  | k + 1, r => by simp [padk, padk_len k]
theorem padk_zero : ∀ k : Nat, padk k 0 = List.replicate k 48
  | 0 => rfl
  | k + 1 => by
    have e : padk (k + 1) 0 = padk k 0 ++ [48] := rfl
    rw [e, padk_zero k, ← List.replicate_succ']
theorem dec_small {n : Nat} (h : n < 10) : Lib.decDigits n = [UInt8.ofNat (48 + n)] := by rw [Lib.decDigits, dif_pos h]
theorem dec_big {n : Nat} (h : ¬ n < 10) : Lib.decDigits n = Lib.decDigits (n / 10) ++ [UInt8.ofNat (48 + n % 10)] := by rw [Lib.decDigits, dif_neg h]
theorem dec_join : ∀ (k q r : Nat), q ≠ 0 → r < 10 ^ k → Lib.decDigits (q * 10 ^ k + r) = Lib.decDigits q ++ padk k r
  | 0, q, r, _, hr => by
    obtain rfl : r = 0 := by simpa using hr
    simp [padk]
  | k + 1, q, r, hq, hr => by
    have hp : 0 < 10 ^ k := Nat.pow_pos (by omega)
    have e1 : q * 10 ^ (k + 1) + r = 10 * (q * 10 ^ k) + r := by rw [Nat.pow_succ, ← Nat.mul_assoc, Nat.mul_comm]
    have hm : 10 ^ k ≤ q * 10 ^ k := Nat.le_mul_of_pos_left _ (by omega)
    have h10 : ¬ q * 10 ^ (k + 1) + r < 10 := by rw [e1]; omega
    rw [dec_big h10, e1]
    have e2 : (10 * (q * 10 ^ k) + r) / 10 = q * 10 ^ k + r / 10 := by omega
    have e3 : (10 * (q * 10 ^ k) + r) % 10 = r % 10 := by omega
    rw [e2, e3, dec_join k q (r / 10) hq (by rw [Nat.pow_succ] at hr; omega)]
    simp [padk]
theorem padk_eq : ∀ (k r : Nat), 0 < k → r < 10 ^ k → padk k r = List.replicate (k - (Lib.decDigits r).length) 48 ++ Lib.decDigits r
  | 0, _, h, _ => by omega
  | k + 1, r, _, hr => by
    by_cases h : r < 10
    · rw [dec_small h]
      have e : r / 10 = 0 := by omega
      have e2 : r % 10 = r := by omega
      simp only [padk, e, e2, padk_zero, List.length_singleton, Nat.add_sub_cancel]
    · have hk : 0 < k := by
        rcases Nat.eq_zero_or_pos k with rfl | h0
        · simp at hr; omega
        · exact h0
      have ih := padk_eq k (r / 10) hk (by rw [Nat.pow_succ] at hr; omega)
      rw [dec_big h]
      simp only [padk, ih, List.length_append, List.length_singleton, Nat.add_sub_add_right, List.append_assoc]
/-- The digits of what is left; none of nought. -/
def decN (n : Nat) : List UInt8 := if n = 0 then [] else Lib.decDigits n
/-- A part of nine digits. -/
def part9 (r : Nat) : List UInt8 := List.replicate (9 - (Lib.decDigits r).length) 48 ++ Lib.decDigits r
theorem dec_len9 {r : Nat} (h : r < 1000000000) : (Lib.decDigits r).length ≤ 9 ∧ 0 < (Lib.decDigits r).length := by
  have h1 := padk_eq 9 r (by omega) h
  have h2 := padk_len 9 r
  rw [h1] at h2
  simp only [List.length_append, List.length_replicate] at h2
  refine ⟨by omega, ?_⟩
  by_cases h : r < 10
  · rw [dec_small h]; simp
  · rw [dec_big h]; simp
theorem dec_step {y : Nat} (h0 : y / 1000000000 ≠ 0) : decN (y / 1000000000) ++ part9 (y % 1000000000) = decN y := by
  have hy : y ≠ 0 := by intro e; rw [e] at h0; simp at h0
  unfold decN part9
  rw [if_neg h0, if_neg hy, ← padk_eq 9 _ (by omega) (Nat.mod_lt _ (by omega)), ← dec_join 9 _ _ h0 (Nat.mod_lt _ (by omega))]
  have := Nat.div_add_mod y 1000000000
  rw [show (10 : Nat) ^ 9 = 1000000000 by decide, Nat.mul_comm]
  rw [this]
theorem dec_last {y : Nat} (hy : y ≠ 0) (h0 : y / 1000000000 = 0) : decN (y / 1000000000) ++ Lib.decDigits (y % 1000000000) = decN y := by
  have e : y % 1000000000 = y := by omega
  unfold decN
  rw [h0, if_pos rfl, if_neg hy, e]; rfl
theorem dec_ten {y : Nat} (hy : y ≠ 0) : decN (y / 10) ++ [UInt8.ofNat (48 + y % 10)] = decN y := by
  unfold decN
  rw [if_neg hy]
  by_cases h : y < 10
  · rw [if_pos (by omega), dec_small h, show y % 10 = y by omega]; rfl
  · rw [if_neg (by omega), dec_big h]
theorem decN_pos {y : Nat} (h : y ≠ 0) : decN y = Lib.decDigits y := by unfold decN; rw [if_neg h]
/-- What Text tells. -/
def textZ (s : Bool) (x : Nat) : List UInt8 := if x = 0 then [48] else (if s then [45] else []) ++ Lib.decDigits x
theorem dec_len (n : Nat) : ∀ k, n < 10 ^ k → 0 < k → (Lib.decDigits n).length ≤ k := fun k h hk => by
  have h1 := padk_eq k n hk h
  have h2 := padk_len k n
  rw [h1] at h2
  simp only [List.length_append, List.length_replicate] at h2
  omega
end Go.Proofs.YtcciibejachjkaaDoor
end

section
/-
  zint.Text of any number: nine decimal digits a part.
-/
namespace Go.Proofs.YtcciibejachjkaaDoor
open Go.RowKit Go.Sort
theorem repeat_48 : ∀ k : Nat, Lib.repeatL [48] k = List.replicate k 48
  | 0 => rfl
  | k + 1 => by rw [Lib.repeatL, repeat_48 k]; rfl
theorem rep_any (k : Nat) (i : Int) (hi : i = (k : Int)) (hk : k ≤ 9) (w : World) :
    Calls Tryd.prog 25 #[.string ⟨#[48]⟩, .int .i64 i] w fun e w' => e = .returned (.string ⟨(List.replicate k 48).toArray⟩) ∧ Below w.heap.size w w' := by
  subst hi
  have h := Tryd.strings_Repeat ⟨#[48]⟩ k w (by omega) (by show 1 * k ≤ _; omega)
  have e : Lib.repeatL (⟨#[48]⟩ : ByteArray).data.toList k = List.replicate k 48 := repeat_48 k
  rw [e] at h
  exact h
set_option maxHeartbeats 1000000 in
set_option maxRecDepth 100000 in
theorem ifmt_zero (w : World) :
    Calls Tryd.prog 38 #[.int .u64 0, .int .i64 10] w fun e w' => e = .returned (.string ⟨(Lib.decDigits 0).toArray⟩) ∧ Below w.heap.size w w' := by
  go_enter Tryd.func38, Tryd.ntmps38
  go_wp2_with fail
  refine (Tryd.internal_strconv_small 0 (by omega) _).mono ?_
  rintro e w' ⟨rfl, rfl⟩
  go_wp2
  go_ret
  exact ⟨rfl, Below.refl _ _⟩
set_option maxHeartbeats 1000000 in
set_option maxRecDepth 100000 in
theorem fmt_all (u : Nat) (hu64 : u < 18446744073709551616) (w : World) (htab : P10 w) :
    Calls Tryd.prog 24 #[.int .u64 u, .int .i64 10] w fun e w' => e = .returned (.string ⟨(Lib.decDigits u).toArray⟩) ∧ Below w.heap.size w w' := by
  rcases Nat.eq_zero_or_pos u with h0 | h0
  · subst h0
    have HC := Lib.hid (ifmt_zero w)
    clear htab hu64
    go_enter Tryd.func24, Tryd.ntmps24
    go_wp2_with fail
    refine HC.out.mono ?_
    rintro e w' ⟨rfl, hb⟩
    have HB := Lib.hid hb
    clear hb
    go_wp2
    go_ret
    exact ⟨rfl, HB.out⟩
  · exact fmt_any u h0 hu64 w htab
/-- Digits that lie in fresh blocks are not touched where a row grows. -/
theorem Dg.grown {w w' : World} {A : Option Addr} {c N : Nat} {xs : List Nat} {r : Option Nat} (h : Dg w A c xs) (hf : Fr N A) (hg : w.grownBy w' r) (hr : ∀ k, r = some k → k < N) : Dg w' A c xs :=
  ⟨h.1, h.2.1, fun h0 => by
    obtain ⟨b, off, e, hb, hc⟩ := h.2.2 h0
    refine ⟨b, off, e, Nat.lt_of_lt_of_le hb hg.size, fun j hj => hg.cell (hc j hj) (fun e' => ?_)⟩
    have h1 := hr b e'.symm
    have h2 := hf b off e
    omega⟩
theorem cat_str (a b : List UInt8) : (⟨a.toArray⟩ : ByteArray) ++ ⟨b.toArray⟩ = ⟨(a ++ b).toArray⟩ := by
  apply ByteArray.ext
  simp [ByteArray.data_append]
theorem pow_room {k g x : Nat} (h : 2 ^ (29 * k) * g ≤ x) (hg : g ≠ 0) {m : Nat} (hm : m ≤ 1000) (hx : x < 4294967296 ^ m) : k ≤ 1103 := by
  rcases Nat.lt_or_ge 1103 k with hk | hk
  · exfalso
    have h1 : 2 ^ (29 * k) ≤ x := Nat.le_trans (Nat.le_mul_of_pos_right _ (by omega)) h
    have h2 : (4294967296 : Nat) ^ m = 2 ^ (32 * m) := by rw [show (4294967296 : Nat) = 2 ^ 32 by decide, ← Nat.pow_mul]
    have h3 : 2 ^ (32 * m) ≤ 2 ^ (29 * k) := Nat.pow_le_pow_right (by omega) (by omega)
    omega
  · exact hk
theorem pow_next {k g x : Nat} (h : 2 ^ (29 * k) * g ≤ x) : 2 ^ (29 * (k + 1)) * (g / 1000000000) ≤ x := by
  have e : 2 ^ (29 * (k + 1)) = 2 ^ (29 * k) * 536870912 := by rw [Nat.mul_add, Nat.pow_add]
  rw [e, Nat.mul_assoc]
  refine Nat.le_trans (Nat.mul_le_mul_left _ ?_) h
  omega
theorem flat_len : ∀ zs : List (List UInt8), (∀ z ∈ zs, z.length ≤ 9) → zs.flatten.length ≤ 9 * zs.length
  | [], _ => by simp
  | z :: zs, h => by
    have h1 := h z (by simp)
    have h2 := flat_len zs (fun y hy => h y (by simp [hy]))
    simp only [List.flatten_cons, List.length_append, List.length_cons]
    omega
theorem text_step {q g : Nat} {p X : List UInt8} {zs : List (List UInt8)} (h : decN q ++ p = decN g) (hd : decN g ++ zs.reverse.flatten = X) : decN q ++ (zs ++ [p]).reverse.flatten = X := by
  rw [List.reverse_append]
  simp only [List.reverse_cons, List.reverse_nil, List.nil_append, List.singleton_append, List.flatten_cons]
  rw [← List.append_assoc, h, hd]
theorem nine_add {zs : List (List UInt8)} {p : List UInt8} (h : ∀ z ∈ zs, z.length ≤ 9) (hp : p.length ≤ 9) : ∀ z ∈ zs ++ [p], z.length ≤ 9 := fun z hz => by
  rcases List.mem_append.1 hz with h1 | h1
  · exact h z h1
  · rw [List.mem_singleton.1 h1]; exact hp
set_option maxHeartbeats 8000000 in
set_option maxRecDepth 100000 in
theorem ztext_pos (A : Option Addr) (c : Nat) (s : Bool) (xs : List Nat) (w : World) (h : Dg w A c xs) (hl : xs.length ≤ 1000) (h0 : 0 < val xs) (htab : P10 w) :
    Calls Tryd.prog 9 #[.agg #[.bool s, .slice A xs.length c]] w fun e w' => e = .returned (.string ⟨(textOne s (val xs)).toArray⟩) ∧ Below w.heap.size w w' := by
  obtain ⟨i0, hi, hz0, hz1, hz2⟩ := info_parts elem9_info
  have TA := Lib.hid (fun W h => take_any A c s xs W h (by omega))
  have e1 : (s && decide (0 < val xs)) = s := by rw [decide_eq_true h0, Bool.and_true]
  rw [e1] at TA
  clear e1
  have HT := Lib.hid htab
  clear htab
  have XB := Lib.hid (val_lt h.2.1)
  have lx := digs_len_le h.2.1
  obtain ⟨x, hx⟩ : ∃ x, val xs = x := ⟨_, rfl⟩
  rw [hx] at TA h0 XB lx
  rw [hx]
  clear hx
  have d0 : 0 < (digs x).length := by
    rcases Nat.eq_zero_or_pos (digs x).length with h1 | h1
    · have := digs_nil.1 h1; omega
    · exact h1
  have q0 : (((digs x).length : Int) == 0) = false := len_ne (by omega)
  have H0 := Lib.hid h0
  have D0 := Lib.hid d0
  have D10 := Lib.hid (digs_one (a := 1000000000) (by omega) (by omega))
  have dx : (digs x).length ≤ 1000 := by omega
  have DX := Lib.hid dx
  clear lx dx h0 d0
  go_enter Tryd.func9, Tryd.ntmps9
  go_wp2_with fail
  refine (TA.out _ (h.below (below1 _ _))).mono ?_
  rintro e w1 ⟨A1, c1, rfl, hd, hb⟩
  have K1 := Lib.hid ((below1 w _).trans (hb.mono (by simp)))
  have G1 := Lib.hid hd
  clear hb hd h TA
  go_wp2_with fail
  refine (zero_any A1 _ c1 _ false q0).mono ?_
  rintro e w2 ⟨rfl, hb⟩
  clear q0
  have RX := Lib.hid (cells_of (heap_alloc_new w1 (.cells #[.slice A1 (digs x).length c1, .bool s] 46)) hb)
  have K2 := Lib.hid (K1.out.trans (((below1 _ _).trans (hb.mono (by simp))).mono K1.out.size))
  have G2 := Lib.hid ((G1.out.below (below1 w1 (.cells #[.slice A1 (digs x).length c1, .bool s] 46))).below hb)
  have z2 := heap_lt RX.out
  have f1 := cell_of_row w2 _ 0 _ _ _ RX.out
  have f2 := cell_of_row w2 _ 1 _ _ _ RX.out
  simp only [List.getElem?_toArray, List.getElem?_cons_zero, List.getElem?_cons_succ] at f1 f2
  clear hb
  go_wp2_with fail
  go_loopg [4, 5] x (fun g pv lv wr => ∃ (A' : Option Addr) (c' : Nat) (zs : List (List UInt8)), lv = .slice A' (digs g).length c' ∧ Hid (Dg wr A' c' (digs g)) ∧ Hid (wr.ownsRow w2.heap.size 9 1 pv zs.length (zs.map Proofs.encStr)) ∧
    Hid (decN g ++ zs.reverse.flatten = Lib.decDigits x) ∧ Hid (zs = [] → g = x) ∧ Hid (zs ≠ [] → pv ≠ .slice none 0 0) ∧ Hid (Below w2.heap.size w2 wr) ∧ Hid (∀ z ∈ zs, z.length ≤ 9) ∧ Hid (2 ^ (29 * zs.length) * g ≤ x) ∧ Hid (zs.length ≤ 1104) ∧ Hid ((digs g).length ≤ 1000))
  case atStart => exact ⟨A1, c1, [], rfl, G2, Lib.hid (World.ownsRow_nil _ _ _ _), Lib.hid (by rw [decN_pos (by have := H0.out; omega)]; simp), Lib.hid (fun _ => rfl), Lib.hid (fun h => absurd rfl h), Lib.hid (Below.refl _ _), Lib.hid (fun z hz => by simp at hz), Lib.hid (by simp), Lib.hid (by simp), DX⟩
  case round =>
    obtain ⟨A', c', zs, rfl, HG, HO, HD, HI, HN, HB, HZ, HP, HK, HL⟩ := hrel
    by_cases hg0 : gk = 0
    · subst hg0
      rw [digs_zero]
      have HE := Lib.hid (show zs.reverse.flatten = Lib.decDigits x by have := HD.out; simpa [decN] using this)
      have hzs : zs ≠ [] := fun e => by have h1 := HI.out e; have h2 := H0.out; omega
      have HNN := Lib.hid (HN.out hzs)
      have HZS := Lib.hid (show zs ≠ [] from hzs)
      clear hzs
      have g1 := cell_of_row wr _ 0 _ _ _ (cells_of RX.out HB.out)
      have g2 := cell_of_row wr _ 1 _ _ _ (cells_of RX.out HB.out)
      simp only [List.getElem?_toArray, List.getElem?_cons_zero, List.getElem?_cons_succ] at g1 g2
      have z7 := HB.out.size
      have hk := HK.out
      clear f1 f2
      have FL := Lib.hid (show zs.reverse.flatten.length ≤ 9 * 1104 from Nat.le_trans (flat_len _ (fun z hz => HZ.out z (by simpa using hz))) (by simp; omega))
      cases s
      · go_wp2_with fail
        refine (rev_own w2.heap.size u4 zs.length zs _ HO.out HNN.out (by omega)).mono ?_
        rintro e w8 ⟨rfl, hown, hb⟩
        have HO8 := Lib.hid hown
        have K8 := Lib.hid (HB.out.trans hb)
        clear hown hb g1 g2
        go_wp2_with fail
        refine (join_own w2.heap.size u4 zs.length _ _ HO8.out HNN.out (by omega) (by have := FL.out; omega)).mono ?_
        rintro e w9 ⟨rfl, hb⟩
        have K9 := Lib.hid (K2.out.trans ((K8.out.trans (hb.mono K8.out.size)).mono K2.out.size))
        clear hb
        go_wp2
        go_ret
        exact ⟨by rw [HE.out]; simp [textOne], K9.out⟩
      · go_wp2_with (at_builtin; refine wpList_append_own _ rfl _ _ 53 rfl w2.heap.size 9 i0 (.string ⟨#[]⟩) 1 16 Tryd.underlying53 hi hz0 hz1 hz2 rfl (by decide) _ _ _ rfl (HO.out.alloc _) ⟨wr.heap.size, 0, none⟩ 1 1 [.string ⟨#[45]⟩] rfl rfl (fun j u hj => one_new hj) (by intro u hu; simp at hu; subst hu; rfl) (by unfold maxLen; omega) (by omega) (by simp; omega) ?_; intro v' w7 hown hgrow hnil; refine Hid.out ?_)
        refine Lib.hid ?_
        have HO7 := Lib.hid (And.intro (show w7.ownsRow w2.heap.size 9 1 v' (zs.length + 1) ((zs ++ [[45]]).map Proofs.encStr) by rw [List.map_append]; exact hown) (show v' ≠ .slice none 0 0 by intro e; simp [e] at hnil))
        have K7b := Lib.hid ((HB.out.alloc z7 (.cells #[.string ⟨#[45]⟩] 9)).grown hgrow (by simp; omega) (fun k hk => (HO.out.lt k hk).1))
        clear hown hgrow hnil g1 g2
        go_wp2_with fail
        refine (rev_own w2.heap.size v' (zs.length + 1) (zs ++ [[45]]) _ HO7.out.1 HO7.out.2 (by omega)).mono ?_
        rintro e w8 ⟨rfl, hown, hb⟩
        have HO8 := Lib.hid hown
        have K8 := Lib.hid (K7b.out.trans hb)
        clear hown hb
        go_wp2_with fail
        refine (join_own w2.heap.size v' (zs.length + 1) _ _ HO8.out HO7.out.2 (by omega) (by rw [List.reverse_append]; simp only [List.reverse_cons, List.reverse_nil, List.nil_append, List.flatten_append, List.flatten_cons, List.flatten_nil, List.append_nil, List.length_append, List.length_singleton]; have := FL.out; omega)).mono ?_
        rintro e w9 ⟨rfl, hb⟩
        have K9 := Lib.hid (K2.out.trans ((K8.out.trans (hb.mono K8.out.size)).mono K2.out.size))
        clear hb
        go_wp2
        go_ret
        exact ⟨by simp [textOne, HE.out], K9.out⟩
    · have t0 : 0 < (digs gk).length := by
        rcases Nat.eq_zero_or_pos (digs gk).length with h1 | h1
        · exact absurd (digs_nil.1 h1) hg0
        · exact h1
      have hk1 := pow_room HP.out hg0 hl XB.out
      have HDM := divmod_f A' (some ⟨wr.heap.size, 0, none⟩) c' 1 (digs gk) [1000000000] (wr.alloc (.cells #[.int .u32 1000000000] 51)) (HG.out.below (below1 _ _)) (Live.get (A := some ⟨wr.heap.size, 0, none⟩) (c := 1) (xs := [1000000000]) ((live_start wr).new1 1000000000 1000000000 rfl (by omega)) (by simp)) (by have := HL.out; omega) (by simp) (by simp [val]) (by rw [show val [1000000000] = 1000000000 by simp [val], D10.out]; rfl)
      rw [val_digs, show val [1000000000] = 1000000000 by simp [val]] at HDM
      have HST := Lib.hid (fun h => dec_step (y := gk) h)
      have HLA := Lib.hid (fun h => dec_last (y := gk) hg0 h)
      have HPN := Lib.hid (pow_next HP.out)
      have HQG := Lib.hid (show gk / 1000000000 < gk by omega)
      have HQL := Lib.hid (Nat.le_trans (digs_len_mono _ _ (Nat.div_le_self gk 1000000000)) HL.out)
      have hr9 : gk % 1000000000 < 1000000000 := Nat.mod_lt _ (by omega)
      generalize gk / 1000000000 = q at *
      generalize gk % 1000000000 = r at *
      have HDM' := Lib.hid HDM
      have HR9 := Lib.hid hr9
      have HG0 := Lib.hid hg0
      have FM := Lib.hid (fun V hv => fmt_all r (by omega) V hv)
      have SM := Lib.hid (fun (A1 : Option Addr) (c1 : Nat) (V : World) (h1 : Dg V A1 c1 (digs r)) => small_any A1 c1 (digs r) V h1 (Nat.le_trans (digs_small (n := r) (by omega)) (by omega)))
      simp only [val_digs] at SM
      have hs : small? r = r := by unfold small?; rw [if_pos (by omega)]
      have hdd : decide (r < 18446744073709551616) = true := decide_eq_true (by omega)
      rw [hs, hdd] at SM
      have DL := dec_len9 hr9
      have P9 := Lib.hid (show part9 r = List.replicate (9 - (Lib.decDigits r).length) 48 ++ Lib.decDigits r from rfl)
      generalize Lib.decDigits r = dl at *
      obtain ⟨dl9, dl0⟩ := DL
      have HDL9 := Lib.hid dl9
      have HDL0 := Lib.hid dl0
      clear HDM hs hdd hr9 hg0 dl9 dl0
      have HK1 := Lib.hid hk1
      clear hk1
      go_wp2_with fail
      refine HDM'.out.mono ?_
      rintro e w3 ⟨A3, c3, B3, d3, rfl, hd, hd3, hb, hfr⟩
      have K3 := Lib.hid ((below1 _ _).trans (hb.mono (by simp)))
      have Q3 := Lib.hid hd
      have G3 := Lib.hid hd3
      have F3 := Lib.hid (show Fr (wr.heap.size + 1) A3 by simpa using hfr)
      clear hb hd hd3 hfr
      go_wp2_with fail
      refine (SM.out B3 d3 _ G3.out).mono ?_
      rintro e w4 ⟨rfl, nn, rfl⟩
      go_wp2_with fail
      refine (FM.out _ (p10_below HT.out (K2.out.trans ((HB.out.trans ((below_drewN K3.out nn).mono HB.out.size)).mono K2.out.size)))).mono ?_
      rintro e w5 ⟨rfl, hb⟩
      have K5 := Lib.hid ((below_drewN K3.out nn).trans (hb.mono K3.out.size))
      have Q5 := Lib.hid ((Q3.out.drewN nn).below hb)
      clear hb
      have HO5 := Lib.hid (own_later HO.out K5.out)
      have KB5 := Lib.hid (HB.out.trans (K5.out.mono HB.out.size))
      have z6 := HB.out.size
      have z5 := K5.out.size
      have zl : zs.length ≤ 1103 := HK1.out
      by_cases hq0 : q = 0
      · subst hq0
        rw [digs_zero]
        go_wp2_with (at_builtin; refine wpList_append_own _ rfl _ _ 53 rfl w2.heap.size 9 i0 (.string ⟨#[]⟩) 1 16 Tryd.underlying53 hi hz0 hz1 hz2 rfl (by decide) _ _ _ rfl (HO5.out.alloc _) ⟨w5.heap.size, 0, none⟩ 1 1 [.string ⟨(dl).toArray⟩] rfl rfl (fun j u hj => one_new hj) (by intro u hu; simp at hu; subst hu; rfl) (by unfold maxLen; omega) (by omega) (by simp; omega) ?_)
        intro v' w6 hown hgrow hnil
        have HO6 := Lib.hid (And.intro (show w6.ownsRow w2.heap.size 9 1 v' (zs.length + 1) ((zs ++ [dl]).map Proofs.encStr) by rw [List.map_append]; exact hown) (show v' ≠ .slice none 0 0 by intro e; simp [e] at hnil))
        have K6 := Lib.hid ((KB5.out.alloc (by omega) (.cells #[.string ⟨(dl).toArray⟩] 9)).grown hgrow (by simp; omega) (fun k hk => (HO5.out.lt k hk).1))
        have Q6 := Lib.hid (show Dg w6 A3 c3 (digs 0) by rw [digs_zero]; exact Dg.nil_ _ _)
        clear hown hgrow hnil
        go_wp2
        go_roundg 0
        case measure => exact HQG.out
        case rel =>
          refine ⟨A3, c3, zs ++ [dl], by rw [digs_zero]; rfl, Q6, Lib.hid (by rw [List.length_append]; exact HO6.out.1), Lib.hid (text_step (HLA.out (by trivial)) HD.out), Lib.hid (fun e => by simp at e), Lib.hid (fun _ => HO6.out.2), K6, Lib.hid (nine_add HZ.out HDL9.out), Lib.hid (by rw [List.length_append]; exact HPN.out), Lib.hid (by rw [List.length_append]; have := HK1.out; simp; omega), HQL⟩
      · have tq : 0 < (digs q).length := by
          rcases Nat.eq_zero_or_pos (digs q).length with h1 | h1
          · exact absurd (digs_nil.1 h1) hq0
          · exact h1
        have HQ0 := Lib.hid hq0
        clear hq0
        have hcat := cat_str (List.replicate (9 - dl.length) 48) dl
        have dl9 : dl.length ≤ 9 := HDL9.out
        go_wp2_with fail
        refine (rep_any (9 - dl.length) _ (by first | omega | (rw [IntWalk.wrap64_in _ (by omega)]; omega)) (by omega) _).mono ?_
        rintro e w7 ⟨rfl, hb⟩
        have K7 := Lib.hid (K5.out.trans (hb.mono K5.out.size))
        have Q7 := Lib.hid (Q5.out.below hb)
        have HO7 := Lib.hid (own_later HO5.out hb)
        have KB7 := Lib.hid (HB.out.trans (K7.out.mono HB.out.size))
        have z7 := K7.out.size
        clear hb
        go_wp2_with (at_builtin; refine wpList_append_own _ rfl _ _ 53 rfl w2.heap.size 9 i0 (.string ⟨#[]⟩) 1 16 Tryd.underlying53 hi hz0 hz1 hz2 rfl (by decide) _ _ _ rfl (HO7.out.alloc _) ⟨w7.heap.size, 0, none⟩ 1 1 [.string ⟨(List.replicate (9 - dl.length) 48 ++ dl).toArray⟩] rfl rfl (fun j u hj => one_new hj) (by intro u hu; simp at hu; subst hu; rfl) (by unfold maxLen; omega) (by omega) (by simp; omega) ?_)
        intro v' w6 hown hgrow hnil
        have HO6 := Lib.hid (And.intro (show w6.ownsRow w2.heap.size 9 1 v' (zs.length + 1) ((zs ++ [List.replicate (9 - dl.length) 48 ++ dl]).map Proofs.encStr) by rw [List.map_append]; exact hown) (show v' ≠ .slice none 0 0 by intro e; simp [e] at hnil))
        have K6 := Lib.hid ((KB7.out.alloc (by omega) (.cells #[.string ⟨(List.replicate (9 - dl.length) 48 ++ dl).toArray⟩] 9)).grown hgrow (by simp; omega) (fun k hk => (HO7.out.lt k hk).1))
        have Q6 := Lib.hid ((Q7.out.below (below1 w7 _)).grown F3.out hgrow (fun k hk => by have := (HO.out.lt k hk).2; omega))
        clear hown hgrow hnil
        go_wp2
        go_roundg q
        case measure => exact HQG.out
        case rel =>
          refine ⟨A3, c3, zs ++ [List.replicate (9 - dl.length) 48 ++ dl], rfl, Q6, Lib.hid (by rw [List.length_append]; exact HO6.out.1), Lib.hid (text_step (by rw [← P9.out]; exact HST.out HQ0.out) HD.out), Lib.hid (fun e => by simp at e), Lib.hid (fun _ => HO6.out.2), K6, Lib.hid (nine_add HZ.out (by simp; omega)), Lib.hid (by rw [List.length_append]; exact HPN.out), Lib.hid (by rw [List.length_append]; have := HK1.out; simp; omega), HQL⟩
end Go.Proofs.YtcciibejachjkaaDoor
end

section
/-
  The law's same; astrolaberef04's Make, Neg, Add, Sub, Mul.
-/
namespace Go.Proofs.YtcciibejachjkaaDoor
open Go.RowKit
set_option maxHeartbeats 2000000 in
set_option maxRecDepth 100000 in
theorem same_any (A B : Option Addr) (c d : Nat) (s : Bool) (xs : List Nat) (w : World) (h : Dg w A c xs) (h' : Dg w B d xs) (hl : xs.length ≤ 16777216) :
    Calls Tryd.prog 8 #[.agg #[.bool s, .slice A xs.length c], .agg #[.bool s, .slice B xs.length d]] w fun e w' => e = .returned (.bool true) ∧ Below w.heap.size w w' := by
  go_enter Tryd.func8, Tryd.ntmps8
  go_wp2_with fail
  refine (Same_any A B c d s xs _ (h.below (below2 _ _ _)) (h'.below (below2 _ _ _)) hl).mono ?_
  rintro e w1 ⟨rfl, hb⟩
  have K := Lib.hid ((below2 w _ _).trans (hb.mono (by simp; omega)))
  clear hb h h'
  go_wp2
  go_ret
  exact ⟨rfl, K.out⟩
end Go.Proofs.YtcciibejachjkaaDoor
end

section
/-
  astrolaberef04's Small, Cmp.
-/
namespace Go.Proofs.YtcciibejachjkaaDoor
open Go.RowKit
theorem cmp_mag {x y : Int} (h : decide (x < 0) = decide (y < 0)) : cmpi x.natAbs y.natAbs = (if x < 0 then -Int.sign (x - y) else Int.sign (x - y)) := by
  have h1 := sign_three (x - y)
  have h2 := cmpi_three x.natAbs y.natAbs
  rw [decide_eq_decide] at h
  split <;> omega
end Go.Proofs.YtcciibejachjkaaDoor
end

section
/-
  append(own, digits...), whatever memory holds the digits.
-/
namespace Go.Proofs.YtcciibejachjkaaDoor
open Go.RowKit
theorem run_append_nilcap {P : Program} {w : World} (base : Nat) (t ty e : TypeId) (i : TypeInfo) (size c : Nat) (ht : P.underlying t = some (.slice e)) (hi : P.info? e = some i)
    (v : Value) (n : Nat) (xs : List Value) (hown : w.ownsRow base e size v n xs) : (Builtin.append_ #[t, t] ty #[v, .slice none 0 c]).run P w = .ok v w := by
  rcases hown.2 with ⟨rfl, rfl⟩ | ⟨g, cap, cur, rfl, _, _, hnc, _⟩
  · simp [Builtin.append_, run_underlying ht, sizeOf, typeInfo, hi, Builtin.lenOf, Builtin.firstCells]
  · simp [Builtin.append_, run_underlying ht, sizeOf, typeInfo, hi, Builtin.lenOf, Builtin.firstCells, hnc, storeCells]
theorem wpList_append_dg {w : World} {ops : Array Oper} {rest : List Oper} {o : Oper} {a : Act} {Q : Exit → Act → World → Prop} (hgd : o.guard = none) (s x : Operand)
    (ho : o.op = .call { callee := .builtin .append, args := #[s, x], argTypes := #[22, 22] }) (base : Nat) (v : Value) (n : Nat) (zs ys : List Nat) (B : Option Addr) (d m : Nat)
    (hs : a.eval s = v) (hown : w.ownsRow base 51 1 v n (cells zs)) (hD : Dg w B d ys) (hm : m = ys.length) (hx : a.eval x = .slice B m d) (hb : n + m ≤ 1099511627776) (hbase : base ≤ w.heap.size)
    (h : ∀ v' w', w'.ownsRow base 51 1 v' (n + m) (cells (zs ++ ys)) → w.grownBy w' v.ownBlock → wpList Tryd.prog ops Q rest (a.put o.dst v') w') : wpList Tryd.prog ops Q (o :: rest) a w := by
  obtain ⟨i0, hi, hz0, hz1, hz2⟩ := info_parts elem_info
  have ec : cells (zs ++ ys) = cells zs ++ cells ys := by simp [cells]
  subst hm
  rcases B with _ | A
  · have h0 : ys = [] := by
      rcases Nat.eq_zero_or_pos ys.length with h0 | h0
      · exact List.eq_nil_of_length_eq_zero h0
      · obtain ⟨b, off, e, _⟩ := hD.2.2 h0
        cases e
    subst h0
    refine wpList_plain hgd fun K hK => ?_
    have hrun := run_append_nilcap (P := Tryd.prog) (w := w) base 22 o.type 51 i0 1 d Tryd.underlying22 hi v n (cells zs) hown
    unfold Oper.wp
    simp at hx
    simp [execOp, ho, resolve, invoke, builtin, hs, hx, hrun, Result.andThen]
    exact hK _ _ (h v w (by simpa using hown) (World.grownBy.refl _ _))
  · refine wpList_append_own _ hgd s x 22 ho base 51 i0 (.int .u32 0) 1 4 Tryd.underlying22 hi hz0 hz1 hz2 rfl (by decide) v n (cells zs) hs hown A ys.length d (cells ys) hx (by simp [cells]) (fun j u hj => dg_cell hD hj) (fun u hu => ?_) (by unfold maxLen; omega) (by omega) hbase fun v' w' h1 h2 _ => h v' w' (by rw [ec]; exact h1) h2
    unfold cells at hu; obtain ⟨x, _, rfl⟩ := List.mem_map.1 hu; rfl
end Go.Proofs.YtcciibejachjkaaDoor
end

section
/-
  quo.Gcd.
-/
namespace Go.Proofs.YtcciibejachjkaaDoor
open Go.RowKit
theorem gcd_step (x g : Nat) : Nat.gcd g (x % g) = Nat.gcd x g := by
  rw [Nat.gcd_comm x g, Nat.gcd_rec g x, Nat.gcd_comm g]
section
variable {w0 w w' : World} {L : List (Option Addr × Nat × List Nat)} {A B : Option Addr} {c d n m : Nat} {xs ys : List Nat} {x y : Nat}
end
end Go.Proofs.YtcciibejachjkaaDoor
end

section
/-
  Plain arithmetic of the root.
-/
namespace Go.Proofs.YtcciibejachjkaaDoor
/-- The greatest number whose square is not above n. -/
def rt (n : Nat) : Nat := if h : n = 0 then 0 else if (2 * rt (n / 4) + 1) * (2 * rt (n / 4) + 1) ≤ n then 2 * rt (n / 4) + 1 else 2 * rt (n / 4)
termination_by n
decreasing_by all_goals omega
theorem sq_lt {a b : Nat} (h : a * a < b * b) : a < b := by
  rcases Nat.lt_or_ge a b with h1 | h1
  · exact h1
  · have := Nat.mul_le_mul h1 h1; omega
theorem rt_step (n : Nat) (h : n ≠ 0) : rt n = if (2 * rt (n / 4) + 1) * (2 * rt (n / 4) + 1) ≤ n then 2 * rt (n / 4) + 1 else 2 * rt (n / 4) := by
  rw [rt]; simp [h]
theorem rt_spec (n : Nat) : rt n * rt n ≤ n ∧ n < (rt n + 1) * (rt n + 1) := by
  induction n using Nat.strongRecOn with
  | ind n ih =>
    by_cases h : n = 0
    · subst h; rw [rt]; simp
    · obtain ⟨h1, h2⟩ := ih (n / 4) (by omega)
      rw [rt_step n h]
      generalize rt (n / 4) = r at *
      have e1 : (2 * r) * (2 * r) = 4 * (r * r) := by rw [Nat.mul_mul_mul_comm]
      have e2 : (2 * r + 1 + 1) * (2 * r + 1 + 1) = 4 * ((r + 1) * (r + 1)) := by rw [show 2 * r + 1 + 1 = 2 * (r + 1) by omega, Nat.mul_mul_mul_comm]
      split
      · exact ⟨by assumption, by rw [e2]; omega⟩
      · exact ⟨by rw [e1]; omega, by omega⟩
theorem rt_is {n s : Nat} (h1 : s * s ≤ n) (h2 : n < (s + 1) * (s + 1)) : s = rt n := by
  obtain ⟨h3, h4⟩ := rt_spec n
  have := sq_lt (Nat.lt_of_le_of_lt h1 h4)
  have := sq_lt (Nat.lt_of_le_of_lt h3 h2)
  omega
theorem rt_le {n s : Nat} (h : n < (s + 1) * (s + 1)) : rt n ≤ s := by
  have := sq_lt (Nat.lt_of_le_of_lt (rt_spec n).1 h); omega
theorem four_le (a b : Nat) : 4 * (a * b) ≤ (a + b) * (a + b) := by
  rcases Nat.le_total a b with h | h
  · obtain ⟨c, rfl⟩ := Nat.exists_eq_add_of_le h
    have : (a + (a + c)) * (a + (a + c)) = 4 * (a * (a + c)) + c * c := by
      simp only [Nat.mul_add, Nat.add_mul, Nat.mul_comm c a]; omega
    omega
  · obtain ⟨c, rfl⟩ := Nat.exists_eq_add_of_le h
    have : (b + c + b) * (b + c + b) = 4 * ((b + c) * b) + c * c := by
      simp only [Nat.mul_add, Nat.add_mul, Nat.mul_comm c b]; omega
    omega
/-- Newton's step stays above the root. -/
theorem newton {n s t : Nat} (hs : 0 < s) (ht : t = (s + n / s) / 2) : n < (t + 1) * (t + 1) := by
  have h1 := Nat.div_add_mod n s
  have h2 := Nat.mod_lt n hs
  have h3 := four_le s (n / s + 1)
  have h4 : s * (n / s + 1) = s * (n / s) + s := by rw [Nat.mul_add, Nat.mul_one]
  generalize n / s = q at *
  have h5 : s + (q + 1) ≤ 2 * (t + 1) := by omega
  have h6 := Nat.mul_le_mul h5 h5
  rw [Nat.mul_mul_mul_comm] at h6
  omega
theorem newton_end {n s t : Nat} (hs : 0 < s) (ht : t = (s + n / s) / 2) (h : s ≤ t) : s * s ≤ n := by
  have h1 : s ≤ n / s := by omega
  exact (Nat.le_div_iff_mul_le hs).1 h1
theorem rt_pos {n : Nat} (h : n ≠ 0) : 0 < rt n := by
  rcases Nat.eq_zero_or_pos (rt n) with h0 | h0
  · have := (rt_spec n).2; rw [h0] at this; omega
  · exact h0
end Go.Proofs.YtcciibejachjkaaDoor
end

section
/-
  quo.root, above, Sqrt.
-/
namespace Go.Proofs.YtcciibejachjkaaDoor
open Go.RowKit
/-- What above answers. -/
def Abv (w : World) (x : Nat) (e : Ending) (w' : World) : Prop := ∃ A' c' u, e = .returned (.slice A' (digs u).length c') ∧ Dg w' A' c' (digs u) ∧ Below w.heap.size w w' ∧ x < (u + 1) * (u + 1) ∧ 0 < u ∧ (digs u).length ≤ 600000
theorem two_pow_half (b : Nat) : 2 ^ b ≤ 2 ^ ((b + 1) / 2) * 2 ^ ((b + 1) / 2) := by
  rw [← Nat.pow_add]; exact Nat.pow_le_pow_right (by omega) (by omega)
theorem sq_up {x u : Nat} (h : x < u * u) : x < (u + 1) * (u + 1) := Nat.lt_of_lt_of_le h (Nat.mul_le_mul (by omega) (by omega))
theorem own_row {w : World} {base g : Nat} {ys : List Nat} (h : Row w g ys) (hb : base ≤ g) (hm : ys.length ≤ maxLen) : w.ownsRow base 51 1 (.slice (some ⟨g, 0, none⟩) ys.length ys.length) ys.length (cells ys) :=
  ⟨by simp [cells], .inr ⟨g, ys.length, (cells ys).toArray, rfl, hb, h, Nat.le_refl _, hm, by simp [cells], by rw [Nat.mul_one, List.take_of_length_le (by simp [cells])]⟩⟩
theorem digs_lift (k u : Nat) (hu : u ≠ 0) : digs (4294967296 ^ k * u) = List.replicate k 0 ++ digs u := by
  have e : val (List.replicate k 0 ++ digs u) = 4294967296 ^ k * u := by rw [val_append, val_zeros, List.length_replicate, val_digs]; omega
  rw [← e]
  refine digs_val (fun x hx => ?_) (fun x hx => ?_)
  · rcases List.mem_append.1 hx with hx | hx
    · exact ok_zeros k x hx
    · exact ok_digs u x hx
  · rw [List.getLast?_append] at hx
    rcases hd : (digs u).getLast? with _ | z
    · exfalso; rw [List.getLast?_eq_none_iff] at hd; exact hu (digs_nil.1 (by rw [hd]; rfl))
    · rw [hd] at hx; simp at hx; subst hx; exact last_digs hd
end Go.Proofs.YtcciibejachjkaaDoor
end

section
/-
  quo.root at every length; quo.Sqrt.
-/
namespace Go.Proofs.YtcciibejachjkaaDoor
open Go.RowKit
theorem Dg.drop_ {w : World} {b off c : Nat} {xs : List Nat} (h : Dg w (some ⟨b, off, none⟩) c xs) (j : Nat) : Dg w (some ⟨b, off + j, none⟩) (c - j) (xs.drop j) := by
  refine ⟨by rw [List.length_drop]; have := h.1; omega, fun x hx => h.2.1 x (List.mem_of_mem_drop hx), fun h0 => ?_⟩
  rw [List.length_drop] at h0
  obtain ⟨b', off', e, hb, hc⟩ := h.2.2 (by omega)
  injection e with e
  injection e with e1 e2 _
  subst e1 e2
  refine ⟨b, off + j, rfl, hb, fun i hi => ?_⟩
  rw [List.length_drop] at hi
  rw [Nat.add_assoc, hc _ (by omega), List.getElem?_drop]
theorem rt_self (n : Nat) : rt n ≤ n := by
  rcases Nat.eq_zero_or_pos (rt n) with h | h
  · omega
  · exact Nat.le_trans (Nat.le_mul_of_pos_right _ h) (rt_spec n).1
theorem trimmed_drop {xs : List Nat} (hk : ok32 xs) (ex : digs (val xs) = xs) (j : Nat) : digs (val (xs.drop j)) = xs.drop j := by
  refine digs_val (fun x hx => hk x (List.mem_of_mem_drop hx)) fun x hx => ?_
  rw [List.getLast?_drop] at hx
  split at hx
  · cases hx
  · exact last_digs (n := val xs) (by rw [ex]; exact hx)
theorem above_le {xs : List Nat} (hk : ok32 xs) {k : Nat} (h : 2 * k ≤ xs.length) : val xs < 4294967296 ^ k * (rt (val (xs.drop (2 * k))) + 1) * (4294967296 ^ k * (rt (val (xs.drop (2 * k))) + 1)) := by
  have h1 := val_split xs h
  have h2 := val_take_lt hk (2 * k) h
  have h3 := (rt_spec (val (xs.drop (2 * k)))).2
  rw [Nat.mul_mul_mul_comm, ← Nat.pow_add, show k + k = 2 * k by omega]
  have h4 := Nat.mul_le_mul_left (4294967296 ^ (2 * k)) h3
  rw [Nat.mul_succ] at h4
  omega
section
variable {w0 w w' : World} {L : List (Option Addr × Nat × List Nat)} {A : Option Addr} {c n : Nat} {xs : List Nat} {x : Nat}
end
end Go.Proofs.YtcciibejachjkaaDoor
end

section
/-
  The reference's own text (astrolaberef03): short, guess.
-/
namespace Go.Proofs.YtcciibejachjkaaDoor
open Go.RowKit
theorem top_ne {D n : Nat} (hn : (digs D).length = n + 1) : (digs D)[n]?.getD 0 ≠ 0 := by
  have hl : (digs D).getLast? = (digs D)[n]? := by rw [List.getLast?_eq_getElem?, hn, Nat.add_sub_cancel]
  rcases hx : (digs D)[n]? with _ | x
  · rw [List.getElem?_eq_none_iff] at hx; omega
  · rw [hx] at hl; exact last_digs hl
theorem pow_le {D n : Nat} (hn : (digs D).length = n + 1) : 4294967296 ^ n ≤ D := by
  have := val_seen1 (ok_digs D) hn
  rw [val_digs] at this
  have := Nat.mul_le_mul_right (4294967296 ^ n) (show 1 ≤ (digs D)[n]?.getD 0 by have := top_ne hn; omega)
  omega
theorem guess_up {R D g n : Nat} (hlt : R < D * 4294967296) (hn : (digs D).length = n + 1) (hg : ∀ t, t * 4294967296 ^ n ≤ R → t < 18446744073709551616 → t / (digs D)[n]?.getD 0 ≤ g ∨ 4294967295 ≤ g) : R / D ≤ g := by
  have v1 := val_seen1 (ok_digs D) hn
  rw [val_digs] at v1
  have hD : D ≠ 0 := fun e => by rw [e, Nat.zero_mul] at hlt; omega
  have hf := top_ne hn
  have hp : 0 < 4294967296 ^ n := Nat.pow_pos (by omega)
  have hq : R / D < 4294967296 := by rw [Nat.div_lt_iff_lt_mul (by omega), Nat.mul_comm]; exact hlt
  have ht : R / 4294967296 ^ n < 18446744073709551616 := by
    rw [Nat.div_lt_iff_lt_mul hp]
    have h1 := val_lt (ok_digs D)
    rw [val_digs, hn, Nat.pow_succ] at h1
    omega
  rcases hg (R / 4294967296 ^ n) (Nat.div_mul_le_self _ _) ht with h | h
  · refine Nat.le_trans (kn_start (u := R) (v := D) (p := 4294967296 ^ n) (by omega) ?_ v1.1 (Nat.div_mul_le_self _ _)) h
    have := Nat.div_add_mod R (4294967296 ^ n)
    have := Nat.mod_lt R hp
    rw [Nat.add_mul, Nat.mul_comm (_ / _)]; omega
  · omega
theorem min_nat (q : Nat) (h : q < 18446744073709551616) : ∃ g : Nat, min (q : Int) 4294967295 = (g : Int) ∧ g < 4294967296 ∧ (q ≤ g ∨ 4294967295 ≤ g) := ⟨min q 4294967295, by omega, by omega, by omega⟩
theorem seen_one {R n : Nat} (hl : (digs R).length = n + 1) : R / 4294967296 ^ n = (digs R)[n]?.getD 0 := by
  have r1 := val_seen1 (ok_digs R) hl
  rw [val_digs] at r1
  have hp : 0 < 4294967296 ^ n := Nat.pow_pos (by omega)
  refine Nat.le_antisymm (Nat.le_of_lt_succ ?_) ?_
  · rw [Nat.div_lt_iff_lt_mul hp]; exact r1.2
  · rw [Nat.le_div_iff_mul_le hp]; exact r1.1
theorem seen_two {R n : Nat} (hl : (digs R).length = n + 2) : R / 4294967296 ^ n = (digs R)[n + 1]?.getD 0 * 4294967296 + (digs R)[n]?.getD 0 := by
  have r1 := val_seen2 (ok_digs R) hl
  rw [val_digs] at r1
  have hp : 0 < 4294967296 ^ n := Nat.pow_pos (by omega)
  refine Nat.le_antisymm (Nat.le_of_lt_succ ?_) ?_
  · rw [Nat.div_lt_iff_lt_mul hp]; exact r1.2
  · rw [Nat.le_div_iff_mul_le hp]; exact r1.1
/-- What guess answers. -/
def Gss (l : Nat) (e : Ending) : Prop := ∃ g : Nat, e = .returned (.int .u64 g) ∧ l ≤ g ∧ g < 4294967296
end Go.Proofs.YtcciibejachjkaaDoor
end

section
/-
  The reference's own text (astrolaberef03): DivMod.
-/
namespace Go.Proofs.YtcciibejachjkaaDoor
open Go.RowKit
/-- What stands between two digits of the reference's long division: the digits from k on are done. -/
structure Rv (X D k : Nat) (zs : List Nat) (r : Nat) : Prop where
  lt : r < D
  ok : ok32 zs
  eq : X / 4294967296 ^ k = val (zs.drop k) * D + r
theorem Rv.start {X D N : Nat} (hD : 0 < D) (h : X < 4294967296 ^ N) : Rv X D N (List.replicate N 0) 0 :=
  ⟨hD, ok_zeros _, by rw [Nat.div_eq_of_lt h]; simp [val]⟩
theorem Rv.next {X D k : Nat} {zs : List Nat} {r x : Nat} (h : Rv X D (k + 1) zs r) (hk : k < zs.length) (hx : x = X / 4294967296 ^ k % 4294967296) :
    x + 4294967296 * r < D * 4294967296 ∧ ∀ q, q = (x + 4294967296 * r) / D → Rv X D k (zs.set k q) (x + 4294967296 * r - D * q) := by
  have hl := h.lt
  have hx' : x < 4294967296 := by omega
  have h1 : x + 4294967296 * r < D * 4294967296 := by
    have := Nat.mul_le_mul_left 4294967296 hl
    omega
  refine ⟨h1, fun q hq => ?_⟩
  have hD : 0 < D := by omega
  have hm := Nat.div_add_mod (x + 4294967296 * r) D
  have hr := Nat.mod_lt (x + 4294967296 * r) hD
  rw [← hq] at hm
  refine ⟨by omega, ok_set h.ok (by rw [hq, Nat.div_lt_iff_lt_mul hD]; omega) _, ?_⟩
  have e2 : (zs.set k q).drop k = q :: zs.drop (k + 1) := by
    rw [List.drop_eq_getElem_cons (by simpa using hk), List.drop_set_of_lt (by omega)]; simp
  have e3 : X / 4294967296 ^ k = x + 4294967296 * (X / 4294967296 ^ (k + 1)) := by
    rw [Nat.pow_succ, ← Nat.div_div_eq_div_mul]; omega
  rw [e2, e3, h.eq]
  simp only [val]
  rw [Nat.add_mul, Nat.mul_add, Nat.mul_assoc, Nat.mul_comm q D]
  omega
theorem Rv.done {X D : Nat} {zs : List Nat} {r : Nat} (h : Rv X D 0 zs r) : val zs = X / D ∧ r = X % D := by
  have := h.eq
  rw [Nat.pow_zero, Nat.div_one, List.drop_zero] at this
  exact div_done (by rw [this, Nat.mul_comm]; omega) h.lt
theorem digs_cons (x r : Nat) : val (x :: digs r) = x + 4294967296 * r := by simp only [val, val_digs]
theorem digs_at (X k : Nat) : (digs X)[k]?.getD 0 = X / 4294967296 ^ k % 4294967296 := by
  induction k generalizing X with
  | zero =>
    by_cases h : X = 0
    · subst h; rw [digs_zero]; simp
    · rw [digs_pos h]; simp
  | succ k ih =>
    by_cases h : X = 0
    · subst h; rw [digs_zero]; simp
    · rw [digs_pos h, List.getElem?_cons_succ, ih, Nat.pow_succ, Nat.mul_comm, Nat.div_div_eq_div_mul]
theorem Dg.set_other {w : World} {A : Option Addr} {c g : Nat} {xs : List Nat} (h : Dg w A c xs) (hA : ∀ o, A ≠ some ⟨g, o, none⟩) (i : Nat) (v : Value) : Dg (w.setCell ⟨g, i, none⟩ v) A c xs :=
  ⟨h.1, h.2.1, fun h0 => by
    obtain ⟨b, off, e, hb, hc⟩ := h.2.2 h0
    have hne : b ≠ g := fun e' => hA off (by rw [e, e'])
    refine ⟨b, off, e, by simpa using hb, fun j hj => ?_⟩
    rw [World.cell?_setCell_other _ _ _ _ (by intro h; simp only [Addr.mk.injEq] at h; omega)]
    exact hc j hj⟩
section
variable {w0 w w' : World} {L : List (Option Addr × Nat × List Nat)} {A B : Option Addr} {c d x y : Nat} {q : Bool}
end
theorem digs_len_step (R D : Nat) (h : R < D * 4294967296) : (digs R).length ≤ (digs D).length + 1 := by
  apply digs_len_lt
  have h1 := val_lt (ok_digs D)
  rw [val_digs] at h1
  rw [Nat.pow_succ]
  exact Nat.lt_trans h (Nat.mul_lt_mul_of_pos_right h1 (by omega))
theorem quot_is {R D g : Nat} (hD : 0 < D) (h1 : R / D ≤ g) (h2 : D * g ≤ R) : g = R / D := Nat.le_antisymm (by rw [Nat.le_div_iff_mul_le hD, Nat.mul_comm]; exact h2) h1
theorem quot_less {R D g : Nat} (hD : 0 < D) (h2 : ¬ D * g ≤ R) : 1 ≤ g ∧ R / D ≤ g - 1 := by
  have h3 : R / D < g := by rw [Nat.div_lt_iff_lt_mul hD, Nat.mul_comm]; omega
  generalize R / D = q at *
  omega
end Go.Proofs.YtcciibejachjkaaDoor
end

section
/-
  The reference's own text (astrolaberef03): DivMod whole, Gcd, Sqrt.
-/
namespace Go.Proofs.YtcciibejachjkaaDoor
open Go.RowKit
section
variable {w0 w w' : World} {L : List (Option Addr × Nat × List Nat)} {A B : Option Addr} {c d n m : Nat} {xs ys : List Nat} {x y : Nat}
end
/-- What stands between two bits of the reference's root. -/
structure Sq (x k s r : Nat) : Prop where
  eq : s * s + r = x
  lt : x < (s + 2 ^ k) * (s + 2 ^ k)
theorem Sq.start (x k : Nat) (h : blen x ≤ 2 * k) : Sq x k 0 x :=
  ⟨by omega, by rw [Nat.zero_add, ← Nat.pow_add]; exact Nat.lt_of_lt_of_le (blen_lt x) (Nat.pow_le_pow_right (by omega) (by omega))⟩
theorem sq_part (s k : Nat) : (s + 2 ^ k) * (s + 2 ^ k) = s * s + (s * 2 ^ 1 + 2 ^ k) * 2 ^ k := by
  rw [Nat.pow_one, Nat.add_mul s (2 ^ k) (s + 2 ^ k), Nat.mul_add, Nat.mul_add, Nat.add_mul (s * 2), Nat.mul_comm (2 ^ k) s, Nat.mul_assoc s 2]
  have : s * (2 * 2 ^ k) = 2 * (s * 2 ^ k) := by rw [Nat.mul_left_comm]
  omega
theorem Sq.yes {x k s r : Nat} (h : Sq x (k + 1) s r) (hp : (s * 2 ^ 1 + 2 ^ k) * 2 ^ k ≤ r) : Sq x k (s + 2 ^ k) (r - (s * 2 ^ 1 + 2 ^ k) * 2 ^ k) := by
  refine ⟨?_, ?_⟩
  · rw [sq_part]; have := h.eq; omega
  · have := h.lt; rw [Nat.pow_succ] at this; rw [show s + 2 ^ k + 2 ^ k = s + 2 ^ k * 2 by omega]; exact this
theorem Sq.no {x k s r : Nat} (h : Sq x (k + 1) s r) (hp : ¬ (s * 2 ^ 1 + 2 ^ k) * 2 ^ k ≤ r) : Sq x k s r := by
  refine ⟨h.eq, ?_⟩
  rw [sq_part]; have := h.eq; omega
theorem Sq.done {x s r : Nat} (h : Sq x 0 s r) : s = rt x ∧ r = x - rt x * rt x := by
  have h1 := h.eq
  have h2 := h.lt
  rw [Nat.pow_zero] at h2
  have h3 := rt_is (n := x) (s := s) (by omega) h2
  refine ⟨h3, ?_⟩
  rw [← h3]; omega
theorem Sq.small {x k s r : Nat} (h : Sq x k s r) : s ≤ x ∧ r ≤ x := by
  have h1 := h.eq
  refine ⟨?_, by omega⟩
  rcases Nat.eq_zero_or_pos s with h0 | h0
  · omega
  · have := Nat.le_mul_of_pos_left s h0; omega
section
variable {w0 w w' : World} {L : List (Option Addr × Nat × List Nat)} {A B : Option Addr} {c d n m : Nat} {xs ys : List Nat} {x y : Nat}
end
end Go.Proofs.YtcciibejachjkaaDoor
end

section
/-
  astrolaberef04's Add, Sub, Mul.
-/
namespace Go.Proofs.YtcciibejachjkaaDoor
open Go.RowKit
theorem zr_end {w w4 : World} {A4 : Option Addr} {c4 : Nat} {z : Int} (g : Nat) (hg : w.heap.size ≤ g) (hd : Dg w4 A4 c4 (digs z.natAbs)) (ho : Off g A4 (digs z.natAbs)) (hb : Below w.heap.size w w4) (v v' : Value) :
    Zr z w (.returned (.agg #[.bool (decide (z < 0)), .slice A4 (digs z.natAbs).length c4])) ((w4.setCell ⟨g, 0, none⟩ v).setCell ⟨g, 1, none⟩ v') :=
  ⟨A4, c4, rfl, (hd.set_off ho _ _).set_off ho _ _, (hb.setCell (by simpa using hg) _).setCell (by simpa using hg) _⟩
/-- An answer's digits and sign are the number's. -/
theorem sg_dec (z : Int) : sg (decide (z < 0)) (val (digs z.natAbs)) = z := by
  rw [val_digs]; unfold sg
  by_cases h : z < 0
  · rw [decide_eq_true h]; simp; omega
  · rw [decide_eq_false h]; simp; omega
theorem sg_mul (s r q : Bool) (x y : Nat) (hq : (s != r) = q) : sg q (x * y) = sg s x * sg r y := by
  subst hq; unfold sg; cases s <;> cases r <;> simp [Int.neg_mul, Int.mul_neg]
end Go.Proofs.YtcciibejachjkaaDoor
end

section
/-
  astrolaberef04's Div.
-/
namespace Go.Proofs.YtcciibejachjkaaDoor
open Go.RowKit
theorem carry1 {W w' : World} (hb : Below W.heap.size W w') {p1 : Addr} {v1 : Value} (h : W.cell? p1 = some v1) (b1 : p1.block < W.heap.size) : w'.cell? p1 = some v1 := (hb.cell b1).trans h
theorem set1 {w : World} {p1 q : Addr} {v1 v : Value} (h : w.cell? p1 = some v1) (b1 : p1.block ≠ q.block) : (w.setCell q v).cell? p1 = some v1 := (World.cell?_setCell_other _ _ _ _ (fun e => b1 (by rw [e]))).trans h
theorem zr2_zero {w w' : World} {A : Option Addr} {c m : Nat} {t : Bool} {q r : Int} (hq : sg t m = q) (hr : r = 0) (hd : Dg w' A c (digs m)) (hb : Below w.heap.size w w') :
    Zr2 q r w (.returned (.tuple #[.agg #[.bool (t && decide (m ≠ 0)), .slice A (digs m).length c], .agg #[.bool false, .slice none 0 0], .bool true])) w' := by
  subst hr
  have := zr2_give (B := none) (d := 0) (k := 0) (u := false) hq (show sg false 0 = 0 from rfl) hd (by rw [digs_zero]; exact Dg.nil_ _ _) hb
  rw [digs_zero] at this
  exact this
end Go.Proofs.YtcciibejachjkaaDoor
end

section
/-
  astrolaberef04's Div, behind a divisor that is not nought.
-/
namespace Go.Proofs.YtcciibejachjkaaDoor
open Go.RowKit
end Go.Proofs.YtcciibejachjkaaDoor
end

section
/-
  zint.Shift.
-/
namespace Go.Proofs.YtcciibejachjkaaDoor
open Go.RowKit
/-- A whole number, and true. -/
def Zb (q : Int) (w : World) (e : Ending) (w' : World) : Prop := ∃ A c, e = .returned (.tuple #[.agg #[.bool (decide (q < 0)), .slice A (digs q.natAbs).length c], .bool true]) ∧ Dg w' A c (digs q.natAbs) ∧ Below w.heap.size w w'
theorem zb_give {w w' : World} {A : Option Addr} {c m : Nat} {t : Bool} {q : Int} (hq : sg t m = q) (hd : Dg w' A c (digs m)) (hb : Below w.heap.size w w') :
    Zb q w (.returned (.tuple #[.agg #[.bool (t && decide (m ≠ 0)), .slice A (digs m).length c], .bool true])) w' := by
  have e1 := sg_neg t m
  have e2 := sg_abs t m
  rw [hq] at e1 e2
  rw [e1]
  subst e2
  exact ⟨A, c, rfl, hd, hb⟩
theorem sg_up (t : Bool) (x k : Nat) : sg t (x * 2 ^ k) = sg t x * 2 ^ k := by
  unfold sg; cases t <;> simp [Int.neg_mul]
theorem sg_dn_pos (x k : Nat) : sg false (x / 2 ^ k) = sg false x / 2 ^ k := by
  unfold sg; simp
theorem sg_dn_whole {x k : Nat} (h : x = x / 2 ^ k * 2 ^ k) : sg true (x / 2 ^ k) = sg true x / 2 ^ k := by
  have hp : (0 : Int) < 2 ^ k := Int.pow_pos (by omega)
  have hne : (2 : Int) ^ k ≠ 0 := by omega
  unfold sg
  simp only [if_true]
  generalize x / 2 ^ k = m at *
  subst h
  have e : -((m * 2 ^ k : Nat) : Int) = (-(m : Int)) * 2 ^ k := by push_cast; rw [Int.neg_mul]
  rw [e, Int.mul_ediv_cancel _ hne]
theorem sg_dn_more {x k : Nat} (h : x ≠ x / 2 ^ k * 2 ^ k) : sg true (x / 2 ^ k + 1) = sg true x / 2 ^ k := by
  have hp : 0 < 2 ^ k := Nat.pow_pos (by omega)
  have h1 := Nat.div_add_mod x (2 ^ k)
  have h2 := Nat.mod_lt x hp
  have e2 : ((2 ^ k : Nat) : Int) = 2 ^ k := by push_cast; rfl
  unfold sg
  simp only [if_true]
  rw [← e2]
  generalize 2 ^ k = P at *
  generalize x / P = m at *
  generalize x % P = r at *
  subst h1
  have hr : r ≠ 0 := by intro e; apply h; rw [e, Nat.mul_comm]; rfl
  have e : -((P * m + r : Nat) : Int) = ((P : Int) - r) + (P : Int) * (-(m : Int) - 1) := by
    push_cast
    have e3 : (P : Int) * (-(m : Int) - 1) = -((P : Int) * m) - P := by
      rw [Int.mul_sub, Int.mul_neg, Int.mul_one]
    rw [e3]; omega
  rw [e, Int.add_mul_ediv_left _ _ (by omega), Int.ediv_eq_zero_of_lt (by omega) (by omega)]
  push_cast; omega
end Go.Proofs.YtcciibejachjkaaDoor
end

section
/-
  zint.Shift, downwards.
-/
namespace Go.Proofs.YtcciibejachjkaaDoor
open Go.RowKit
end Go.Proofs.YtcciibejachjkaaDoor
end

section
/-
  astrolaberef04's Shift.
-/
namespace Go.Proofs.YtcciibejachjkaaDoor
open Go.RowKit
end Go.Proofs.YtcciibejachjkaaDoor
end

section
/-
  astrolaberef04's Right, From.
-/
namespace Go.Proofs.YtcciibejachjkaaDoor
open Go.RowKit
end Go.Proofs.YtcciibejachjkaaDoor
end

section
/-
  astrolaberef04's Bytes.
-/
namespace Go.Proofs.YtcciibejachjkaaDoor
open Go.RowKit
end Go.Proofs.YtcciibejachjkaaDoor
end

section
/-
  What a law's walk calls, by whole numbers: each contract at numbers that are told by a sign and digits.
-/
namespace Go.Proofs.YtcciibejachjkaaDoor
open Go.RowKit
theorem zlen_add (x y : Int) : (digs (x + y).natAbs).length ≤ max (digs x.natAbs).length (digs y.natAbs).length + 1 :=
  Nat.le_trans (digs_len_mono _ _ (by omega : (x + y).natAbs ≤ x.natAbs + y.natAbs)) (digs_add_len _ _)
theorem zlen_sub (x y : Int) : (digs (x - y).natAbs).length ≤ max (digs x.natAbs).length (digs y.natAbs).length + 1 :=
  Nat.le_trans (digs_len_mono _ _ (by omega : (x - y).natAbs ≤ x.natAbs + y.natAbs)) (digs_add_len _ _)
theorem zlen_mul (x y : Int) : (digs (x * y).natAbs).length ≤ (digs x.natAbs).length + (digs y.natAbs).length := by
  rw [Int.natAbs_mul]; exact digs_mul_len _ _
theorem zlen_neg (x : Int) : (digs (-x).natAbs).length = (digs x.natAbs).length := by rw [Int.natAbs_neg]
theorem zlen_raw {s : Bool} {xs : List Nat} {x : Int} (hk : ok32 xs) (h : sg s (val xs) = x) : (digs x.natAbs).length ≤ xs.length := by
  rw [← h, sg_abs]; exact digs_len_le hk
theorem sg_z (z : Int) : sg (decide (z < 0)) (val (digs z.natAbs)) = z := sg_dec z
section
variable {A B : Option Addr} {c d n m : Nat} {s r : Bool} {xs ys : List Nat} {x y : Int} {w : World}
theorem zadd_z (h : Dg w A c xs) (h' : Dg w B d ys) (hx : sg s (val xs) = x) (hy : sg r (val ys) = y) (hl : xs.length ≤ 1000000) (hl' : ys.length ≤ 1000000) :
    Calls Tryd.prog 11 #[.agg #[.bool s, .slice A xs.length c], .agg #[.bool r, .slice B ys.length d]] w fun e w' => Zr (x + y) w e w' := by
  subst hx hy; exact zadd_any A B c d s r xs ys w h h' hl hl'
theorem zmul_z (h : Dg w A c xs) (h' : Dg w B d ys) (hx : sg s (val xs) = x) (hy : sg r (val ys) = y) (hl : xs.length ≤ 500000) (hl' : ys.length ≤ 500000) :
    Calls Tryd.prog 12 #[.agg #[.bool s, .slice A xs.length c], .agg #[.bool r, .slice B ys.length d]] w fun e w' => Zr (x * y) w e w' := by
  subst hx hy; exact zmul_any A B c d s r xs ys w h h' hl hl'
theorem zmake_z (h : Dg w A c xs) (hx : sg s (val xs) = x) (hl : xs.length ≤ 1000000) :
    Calls Tryd.prog 5 #[.bool s, .slice A xs.length c] w fun e w' => Zr x w e w' := by
  subst hx; exact zmake_any A c s xs w h hl
theorem zfrom_z {i : Int} (hx : i = x) (h0 : -9223372036854775808 ≤ x) (h1 : x ≤ 9223372036854775807) :
    Calls Tryd.prog 10 #[.int .i64 i] w fun e w' => Zr x w e w' := by
  subst hx; exact zfrom_any i w h0 h1
theorem zdiv_z {u v : Int} (h : Dg w A c xs) (h' : Dg w B d ys) (hx : sg s (val xs) = x) (hy : sg r (val ys) = y) (hl : xs.length ≤ 500000) (hl' : ys.length ≤ 500000) (y0 : y ≠ 0) (hu : Int.fdiv x y = u) (hv : Int.fmod x y = v) :
    Calls Tryd.prog 14 #[.agg #[.bool s, .slice A xs.length c], .agg #[.bool r, .slice B ys.length d]] w fun e w' => Zr2 u v w e w' := by
  subst hu hv hx hy; exact zdiv_any A B c d s r xs ys w h h' hl hl' (fun e => y0 (by rw [e]; unfold sg; cases r <;> rfl))
theorem zdiv_z_no (h : Dg w A c xs) (h' : Dg w B d ys) (hy : sg r (val ys) = 0) (hl : xs.length ≤ 500000) (hl' : ys.length ≤ 500000) :
    Calls Tryd.prog 14 #[.agg #[.bool s, .slice A xs.length c], .agg #[.bool r, .slice B ys.length d]] w fun e w' => e = .returned (.tuple #[.agg #[.bool false, .slice none 0 0], .agg #[.bool false, .slice none 0 0], .bool false]) ∧ Below w.heap.size w w' :=
  zdiv_no A B c d s r xs ys w h h' hl hl' (by have := sg_abs r (val ys); rw [hy] at this; simpa using this.symm)
theorem zsmall_z {q : Int} {ok : Bool} (h : Dg w A c xs) (hx : sg s (val xs) = x) (hl : xs.length ≤ 1000000) (hq : smallz x = q) (hok : smallb x = ok) :
    Calls Tryd.prog 15 #[.agg #[.bool s, .slice A xs.length c]] w fun e w' => e = .returned (.tuple #[.int .i64 q, .bool ok]) ∧ Below w.heap.size w w' := by
  subst hx; exact zsmall_any A c s xs w h hl q ok hq hok
theorem zadd_v {z : Int} (h : Dg w A c xs) (h' : Dg w B d ys) (hx : sg s (val xs) = x) (hy : sg r (val ys) = y) (hl : xs.length ≤ 1000000) (hl' : ys.length ≤ 1000000) (hz : x + y = z) :
    Calls Tryd.prog 11 #[.agg #[.bool s, .slice A xs.length c], .agg #[.bool r, .slice B ys.length d]] w fun e w' => Zr z w e w' := by
  subst hz; exact zadd_z h h' hx hy hl hl'
theorem zmul_v {z : Int} (h : Dg w A c xs) (h' : Dg w B d ys) (hx : sg s (val xs) = x) (hy : sg r (val ys) = y) (hl : xs.length ≤ 500000) (hl' : ys.length ≤ 500000) (hz : x * y = z) :
    Calls Tryd.prog 12 #[.agg #[.bool s, .slice A xs.length c], .agg #[.bool r, .slice B ys.length d]] w fun e w' => Zr z w e w' := by
  subst hz; exact zmul_z h h' hx hy hl hl'
theorem same_z {x y : Int} (h : Dg w A c (digs x.natAbs)) (h' : Dg w B d (digs y.natAbs)) (hl : (digs x.natAbs).length ≤ 16777216) (he : x = y) :
    Calls Tryd.prog 8 #[.agg #[.bool (decide (x < 0)), .slice A (digs x.natAbs).length c], .agg #[.bool (decide (y < 0)), .slice B (digs y.natAbs).length d]] w fun e w' => e = .returned (.bool true) ∧ Below w.heap.size w w' := by
  subst he; exact same_any A B c d _ _ w h h' hl
end
end Go.Proofs.YtcciibejachjkaaDoor
end

section
/-
  The law's own 'examples' of chapter 4.
-/
namespace Go.Proofs.YtcciibejachjkaaDoor
open Go.RowKit
theorem is_z (n : Int) : ∃ z : Int, n = z := ⟨n, rfl⟩
set_option maxHeartbeats 8000000 in
set_option maxRecDepth 100000 in
theorem examples_any (w : World) (htab : P10 w) : Calls Tryd.prog 4 #[] w fun e w' => e = .returned (.bool true) ∧ Below w.heap.size w w' := by
  have HT := Lib.hid htab
  clear htab
  obtain ⟨z1, h1⟩ := is_z (-7)
  obtain ⟨z2, h2⟩ := is_z 2
  obtain ⟨z4, h4⟩ := is_z (-4)
  obtain ⟨z0, h0⟩ := is_z 1
  obtain ⟨z5, h5⟩ := is_z (-5)
  obtain ⟨z6, h6⟩ := is_z (-9223372036854775808)
  obtain ⟨z7, h7⟩ := is_z (-120)
  have D1 := digs_one (a := 1) (by omega) (by omega)
  have D2 := digs_one (a := 2) (by omega) (by omega)
  have D4 := digs_one (a := 4) (by omega) (by omega)
  have D5 := digs_one (a := 5) (by omega) (by omega)
  have D7 := digs_one (a := 7) (by omega) (by omega)
  have D120 := digs_one (a := 120) (by omega) (by omega)
  have HQ := Lib.hid (show Int.fdiv z1 z2 = z4 by rw [← h1, ← h2, ← h4]; decide)
  have HR := Lib.hid (show Int.fmod z1 z2 = z0 by rw [← h1, ← h2, ← h0]; decide)
  have b1 : (digs z1.natAbs).length ≤ 1 := by rw [← h1]; show (digs 7).length ≤ 1; rw [D7]; simp
  have b2 : (digs z2.natAbs).length ≤ 1 := by rw [← h2]; show (digs 2).length ≤ 1; rw [D2]; simp
  have b4 : (digs z4.natAbs).length ≤ 1 := by rw [← h4]; show (digs 4).length ≤ 1; rw [D4]; simp
  have b0 : (digs z0.natAbs).length ≤ 1 := by rw [← h0]; show (digs 1).length ≤ 1; rw [D1]; simp
  have b5 : (digs z5.natAbs).length ≤ 1 := by rw [← h5]; show (digs 5).length ≤ 1; rw [D5]; simp
  have b6 : (digs z6.natAbs).length ≤ 2 := by rw [← h6]; exact digs_small (by decide)
  have b7 : (digs z7.natAbs).length ≤ 1 := by rw [← h7]; show (digs 120).length ≤ 1; rw [D120]; simp
  have HS := Lib.hid (show smallz z6 = z6 ∧ smallb z6 = true by rw [← h6]; decide)
  have HBY := Lib.hid (show rightB (decide (z5 < 0)) (digs z5.natAbs) = true ∧ zbytes (decide (z5 < 0)) (digs z5.natAbs) = [0, 3, 5, 0, 0, 0] by
    rw [← h5]
    show rightB true (digs 5) = true ∧ zbytes true (digs 5) = [0, 3, 5, 0, 0, 0]
    rw [D5]; decide)
  have HTX := Lib.hid (show 0 < val (digs z7.natAbs) ∧ val (digs z7.natAbs) < 1000000000 ∧ textOne (decide (z7 < 0)) (val (digs z7.natAbs)) = [45, 49, 50, 48] by
    rw [val_digs, ← h7]
    refine ⟨by decide, by decide, ?_⟩
    show textOne true 120 = _
    unfold textOne
    rw [Lib.decDigits, dif_neg (by omega), Lib.decDigits_two (by omega) (by omega)]
    decide)
  have HZ := Lib.hid (And.intro h1 (And.intro h2 (And.intro h4 (And.intro h0 (And.intro h5 (And.intro h6 h7))))))
  clear D1 D2 D4 D5 D7 D120 h1 h2 h4 h0 h5 h6 h7
  go_enter Tryd.func4, Tryd.ntmps4
  have L0 := Lib.hid (live_start w)
  go_wp2_with fail
  refine (zfrom_z (x := z1) HZ.out.1 (by have := HZ.out.1; omega) (by have := HZ.out.1; omega)).mono ?_
  rintro e w1 ⟨A1, c1, rfl, hd, hb⟩
  have L1 := Lib.hid ((L0.out.step hb).add hd)
  clear hb hd
  go_wp2_with fail
  refine (zfrom_z (x := z2) HZ.out.2.1 (by have := HZ.out.2.1; omega) (by have := HZ.out.2.1; omega)).mono ?_
  rintro e w2 ⟨A2, c2, rfl, hd, hb⟩
  have L2 := Lib.hid ((L1.out.step hb).add hd)
  clear hb hd
  go_wp2_with fail
  refine (zdiv_z (x := z1) (y := z2) (u := z4) (v := z0) (L2.out.get (by simp)) (L2.out.get (by simp)) (sg_z _) (sg_z _) (by omega) (by omega) (by have := HZ.out.2.1; omega) HQ.out HR.out).mono ?_
  rintro e w3 ⟨A3, c3, B3, d3, rfl, hd, hd', hb⟩
  have L3 := Lib.hid (((L2.out.step hb).add hd).add hd')
  clear hb hd hd'
  go_wp2_with fail
  obtain ⟨w4, hW⟩ : ∃ W : World, W = ((w3.alloc (.cells #[.bool (decide (z4 < 0)), .slice A3 (digs z4.natAbs).length c3] 24)).alloc (.cells #[.bool (decide (z0 < 0)), .slice B3 (digs z0.natAbs).length d3] 24)) := ⟨_, rfl⟩
  rw [← hW]
  have hb : Below w3.heap.size w3 w4 := by rw [hW]; exact below2 _ _ _
  have L4 := Lib.hid (L3.out.step hb)
  have Rq_4 := Lib.hid (show w4.heap[w3.heap.size]? = some (.cells #[.bool (decide (z4 < 0)), .slice A3 (digs z4.natAbs).length c3] 24 (0, 0)) by rw [hW]; exact heap_alloc2_old _ _ _)
  have Rr_4 := Lib.hid (show w4.heap[w3.heap.size + 1]? = some (.cells #[.bool (decide (z0 < 0)), .slice B3 (digs z0.natAbs).length d3] 24 (0, 0)) by rw [hW]; exact heap_alloc2_new _ _ _)
  clear hW hb
  go_wp2_with fail
  have fq0 := cell_of_row w4 _ 0 _ _ _ Rq_4.out
  have fq1 := cell_of_row w4 _ 1 _ _ _ Rq_4.out
  have xq := heap_lt Rq_4.out
  simp only [List.getElem?_toArray, List.getElem?_cons_zero, List.getElem?_cons_succ] at fq0 fq1
  have KD := Lib.hid (bd0 w4)
  have LD := Lib.hid (L4.out.step KD.out)
  go_region_held3 (fun w' => ∀ b o, b < w4.heap.size → w'.cell? ⟨b, o, none⟩ = w4.cell? ⟨b, o, none⟩)
    (first | with_reducible exact (bcell KD.out).1 | with_reducible exact (bcell K6.out).1 | with_reducible exact (bcell K7.out).1)
    (first
      | (go_at_call 10; (with_reducible refine (zfrom_z (x := z4) HZ.out.2.2.1 (by have := HZ.out.2.2.1; omega) (by have := HZ.out.2.2.1; omega)).mono ?_); rintro e w6 ⟨A6, c6, rfl, hd, hb⟩; (have K6 := Lib.hid (KD.out.trans (hb.mono KD.out.size))); (have L6 := Lib.hid ((LD.out.step hb).add hd)); clear hb hd)
      | (go_at_call 8; (with_reducible refine (same_z (x := z4) (y := z4) (L6.out.get (by simp)) (L6.out.get (by simp)) (by omega) rfl).mono ?_); rintro e w7 ⟨rfl, hb⟩; (have K7 := Lib.hid (K6.out.trans (hb.mono K6.out.size))); (have L7 := Lib.hid (L6.out.step hb)); clear hb ))
  clear fq0 fq1 xq
  have Rq_7 := Lib.hid (cells_of Rq_4.out K7.out)
  have Rr_7 := Lib.hid (cells_of Rr_4.out K7.out)
  clear KD LD
  go_wp2_with fail
  have fr0 := cell_of_row w7 _ 0 _ _ _ Rr_7.out
  have fr1 := cell_of_row w7 _ 1 _ _ _ Rr_7.out
  have xr := heap_lt Rr_7.out
  simp only [List.getElem?_toArray, List.getElem?_cons_zero, List.getElem?_cons_succ] at fr0 fr1
  have KD := Lib.hid (bd0 w7)
  have LD := Lib.hid (L7.out.step KD.out)
  go_region_held3 (fun w' => ∀ b o, b < w7.heap.size → w'.cell? ⟨b, o, none⟩ = w7.cell? ⟨b, o, none⟩)
    (first | with_reducible exact (bcell KD.out).1 | with_reducible exact (bcell K9.out).1 | with_reducible exact (bcell K10.out).1)
    (first
      | (go_at_call 10; (with_reducible refine (zfrom_z (x := z0) HZ.out.2.2.2.1 (by have := HZ.out.2.2.2.1; omega) (by have := HZ.out.2.2.2.1; omega)).mono ?_); rintro e w9 ⟨A9, c9, rfl, hd, hb⟩; (have K9 := Lib.hid (KD.out.trans (hb.mono KD.out.size))); (have L9 := Lib.hid ((LD.out.step hb).add hd)); clear hb hd)
      | (go_at_call 8; (with_reducible refine (same_z (x := z0) (y := z0) (L9.out.get (by simp)) (L9.out.get (by simp)) (by omega) rfl).mono ?_); rintro e w10 ⟨rfl, hb⟩; (have K10 := Lib.hid (K9.out.trans (hb.mono K9.out.size))); (have L10 := Lib.hid (L9.out.step hb)); clear hb ))
  clear fr0 fr1 xr
  have Rq_10 := Lib.hid (cells_of Rq_7.out K10.out)
  have Rr_10 := Lib.hid (cells_of Rr_7.out K10.out)
  clear KD LD
  go_wp2_with fail
  refine (zfrom_z (x := z5) HZ.out.2.2.2.2.1 (by have := HZ.out.2.2.2.2.1; omega) (by have := HZ.out.2.2.2.2.1; omega)).mono ?_
  rintro e w11 ⟨A11, c11, rfl, hd, hb⟩
  have L11 := Lib.hid ((L10.out.step hb).add hd)
  have Rq_11 := Lib.hid (cells_of Rq_10.out hb)
  have Rr_11 := Lib.hid (cells_of Rr_10.out hb)
  clear hb hd
  have BY := Lib.hid (zbytes_any A11 c11 (decide (z5 < 0)) (digs z5.natAbs) w11 (L11.out.get (by simp)) (by omega) HBY.out.1)
  rw [HBY.out.2] at BY
  go_wp2_with fail
  refine (BY.out).mono ?_
  rintro e w12 ⟨rfl, hb⟩
  have L12 := Lib.hid (L11.out.step hb)
  have Rq_12 := Lib.hid (cells_of Rq_11.out hb)
  have Rr_12 := Lib.hid (cells_of Rr_11.out hb)
  clear hb 
  clear BY
  go_wp2_with fail
  refine (zfrom_z (x := z6) HZ.out.2.2.2.2.2.1 (by have := HZ.out.2.2.2.2.2.1; omega) (by have := HZ.out.2.2.2.2.2.1; omega)).mono ?_
  rintro e w13 ⟨A13, c13, rfl, hd, hb⟩
  have L13 := Lib.hid ((L12.out.step hb).add hd)
  have Rq_13 := Lib.hid (cells_of Rq_12.out hb)
  have Rr_13 := Lib.hid (cells_of Rr_12.out hb)
  clear hb hd
  have Z6 := Lib.hid HZ.out.2.2.2.2.2.1
  have SM := Lib.hid (zsmall_z (x := z6) (q := -9223372036854775808) (ok := true) (L13.out.get (A := A13) (c := c13) (xs := digs z6.natAbs) (by simp)) (sg_z _) (by omega) (by rw [HS.out.1]; exact Z6.out.symm) HS.out.2)
  go_wp2_with fail
  refine (SM.out).mono ?_
  rintro e w14 ⟨rfl, hb⟩
  have L14 := Lib.hid (L13.out.step hb)
  have Rq_14 := Lib.hid (cells_of Rq_13.out hb)
  have Rr_14 := Lib.hid (cells_of Rr_13.out hb)
  clear hb 
  clear SM
  go_wp2_with fail
  refine (zfrom_z (x := z7) HZ.out.2.2.2.2.2.2 (by have := HZ.out.2.2.2.2.2.2; omega) (by have := HZ.out.2.2.2.2.2.2; omega)).mono ?_
  rintro e w15 ⟨A15, c15, rfl, hd, hb⟩
  have L15 := Lib.hid ((L14.out.step hb).add hd)
  have Rq_15 := Lib.hid (cells_of Rq_14.out hb)
  have Rr_15 := Lib.hid (cells_of Rr_14.out hb)
  clear hb hd
  have TX := Lib.hid (ztext_one A15 c15 (decide (z7 < 0)) (digs z7.natAbs) w15 (L15.out.get (by simp)) (by omega) HTX.out.1 HTX.out.2.1 (p10_below HT.out L15.out.1))
  rw [HTX.out.2.2] at TX
  go_wp2_with fail
  refine (TX.out).mono ?_
  rintro e w16 ⟨rfl, hb⟩
  have L16 := Lib.hid (L15.out.step hb)
  have Rq_16 := Lib.hid (cells_of Rq_15.out hb)
  have Rr_16 := Lib.hid (cells_of Rr_15.out hb)
  clear hb 
  clear TX
  go_wp2
  go_ret
  exact ⟨rfl, L16.out.1⟩
end Go.Proofs.YtcciibejachjkaaDoor
end

section
/-
  Small words for the laws of chapter 4.
-/
namespace Go.Proofs.YtcciibejachjkaaDoor
open Go.RowKit
theorem le6 {n k : Nat} (h : n ≤ 100000) (hk : 100000 ≤ k := by omega) : n ≤ k := Nat.le_trans h hk
theorem below_n3 (w : World) (o1 o2 o3 : Obj) : Below w.heap.size w (((w.alloc o1).alloc o2).alloc o3) := below3 w o1 o2 o3
end Go.Proofs.YtcciibejachjkaaDoor
end

section
/-
  A number of its own digits is right.
-/
namespace Go.Proofs.YtcciibejachjkaaDoor
open Go.RowKit
set_option maxRecDepth 100000
theorem right_digs (x : Int) : rightB (decide (x < 0)) (digs x.natAbs) = true := by
  unfold rightB
  split
  · rename_i h
    have h0 : x.natAbs = 0 := by
      have := val_digs x.natAbs
      rw [List.length_eq_zero_iff.1 h] at this
      exact this.symm
    have : ¬ x < 0 := by omega
    simp [this]
  · rename_i h
    have hl : ∀ d, (digs x.natAbs)[(digs x.natAbs).length - 1]? = some d → d ≠ 0 := fun d hd => last_digs (n := x.natAbs) (by rw [List.getLast?_eq_getElem?]; exact hd)
    rcases hx : (digs x.natAbs)[(digs x.natAbs).length - 1]? with _ | d
    · rw [List.getElem?_eq_none_iff] at hx; omega
    · have := hl d hx
      simp [this]
theorem right_z {A : Option Addr} {c : Nat} {x : Int} {w : World} (h : Dg w A c (digs x.natAbs)) (hl : (digs x.natAbs).length ≤ 1000000) :
    Calls Tryd.prog 13 #[.agg #[.bool (decide (x < 0)), .slice A (digs x.natAbs).length c]] w fun e w' => e = .returned (.bool true) ∧ Below w.heap.size w w' :=
  right_any A c _ _ w h true (right_digs x) (by omega)
theorem right_w {A : Option Addr} {c : Nat} {s q : Bool} {xs : List Nat} {w : World} (h : Dg w A c xs) (hl : xs.length ≤ 9223372036854775807) (hq : rightB s xs = q) :
    Calls Tryd.prog 13 #[.agg #[.bool s, .slice A xs.length c]] w fun e w' => e = .returned (.bool q) ∧ Below w.heap.size w w' := right_any A c s xs w h q hq hl
theorem zlen_64 {n : Int} (h0 : -9223372036854775808 ≤ n) (h1 : n ≤ 9223372036854775807) : (digs n.natAbs).length ≤ 2 := digs_small (n := n.natAbs) (by omega)
end Go.Proofs.YtcciibejachjkaaDoor
end

section
/-
  Words on quotient and rest, for the laws of chapter 4.
-/
namespace Go.Proofs.YtcciibejachjkaaDoor
open Go.RowKit
set_option maxRecDepth 100000
theorem fmod_bd (x : Int) {y : Int} (h : y ≠ 0) : (x.fmod y).natAbs < y.natAbs ∧ (x.fmod y ≠ 0 → decide (x.fmod y < 0) = decide (y < 0)) := by
  rcases Int.lt_or_gt_of_ne h with hn | hp
  · have e := Int.neg_fmod_neg x y
    have h1 := Int.fmod_lt_of_pos (-x) (show 0 < -y by omega)
    have h2 := Int.fmod_nonneg_of_pos (-x) (show 0 < -y by omega)
    rw [e] at h1 h2
    exact ⟨by omega, fun h0 => by rw [decide_eq_true hn, decide_eq_true (by omega)]⟩
  · have h1 := Int.fmod_lt_of_pos x hp
    have h2 := Int.fmod_nonneg_of_pos x hp
    exact ⟨by omega, fun h0 => by rw [decide_eq_false (by omega), decide_eq_false (by omega)]⟩
theorem zlen_fdiv (x y : Int) : (digs (x.fdiv y).natAbs).length ≤ (digs x.natAbs).length := digs_len_mono _ _ (Int.natAbs_fdiv_le_natAbs x y)
theorem zlen_fmod (x : Int) {y : Int} (h : y ≠ 0) : (digs (x.fmod y).natAbs).length ≤ (digs y.natAbs).length := digs_len_mono _ _ (Nat.le_of_lt (fmod_bd x h).1)
theorem zlen_abs (x : Int) : (digs (x.natAbs : Int).natAbs).length = (digs x.natAbs).length := by rw [Int.natAbs_natCast]
theorem sign_ne {x y : Int} (h : x ≠ y) : (Int.sign (x - y) == 0) = false := by
  rw [beq_eq_false_iff_ne]; intro e; exact h (by have := Int.sign_eq_zero_iff_zero.1 e; omega)
theorem sign_is {x : Int} : (Int.sign (x - 0) == 0) = decide (x = 0) := by
  rw [Int.sub_zero]
  by_cases h : x = 0
  · subst h; rfl
  · rw [decide_eq_false h, beq_eq_false_iff_ne]; intro e; exact h (Int.sign_eq_zero_iff_zero.1 e)
end Go.Proofs.YtcciibejachjkaaDoor
end
