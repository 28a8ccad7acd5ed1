import Derived.Test.YtcciibejachjkaaDoorMB2
import Derived.Test.YtcciibejachjkaaDoorMB1
import Derived.Test.YtcciibejachjkaaDoorRows
import Derived.Test.YtcciibejachjkaaDoorMB0
import Derived.WalkKit
import Derived.ProofKit
import Derived.OpenShut
import Derived.ChangeSame
import Derived.LaidMore
import Derived.Stop.Joined
import Derived.Stop.LaidErr
import Derived.Lib.SmallJoins
section
/-
  Quotient and rest, and what is moved, whatever the divisor and the way: for the laws of chapter 4.
-/
namespace Go.Proofs.YtcciibejachjkaaDoor
open Go.RowKit
set_option maxRecDepth 100000
def divr (x y : Int) : Int := if y = 0 then 0 else x.fmod y
def Zr3 (u v : Int) (ok : Bool) (w : World) (e : Ending) (w' : World) : Prop := ∃ A c B d, e = .returned (.tuple #[.agg #[.bool (decide (u < 0)), .slice A (digs u.natAbs).length c], .agg #[.bool (decide (v < 0)), .slice B (digs v.natAbs).length d], .bool ok]) ∧ Dg w' A c (digs u.natAbs) ∧ Dg w' B d (digs v.natAbs) ∧ Below w.heap.size w w'
theorem digs_int0 : digs (0 : Int).natAbs = [] := digs_zero
theorem zr3_none {w w' : World} (h : Below w.heap.size w w') : Zr3 0 0 false w (.returned (.tuple #[.agg #[.bool false, .slice none 0 0], .agg #[.bool false, .slice none 0 0], .bool false])) w' :=
  ⟨none, 0, none, 0, by rw [digs_int0]; rfl, by rw [digs_int0]; exact Dg.nil_ _ _, by rw [digs_int0]; exact Dg.nil_ _ _, h⟩
theorem zlen_divr (x y : Int) : (digs (divr x y).natAbs).length ≤ (digs y.natAbs).length := by
  unfold divr
  split
  · rw [digs_int0]; simp
  · rename_i h; exact zlen_fmod x h
/-- What is moved. -/
def shz (x n : Int) : Int := if n < -100000 ∨ 100000 < n then 0 else if 0 ≤ n then x * 2 ^ n.toNat else x / 2 ^ (-n).toNat
def shb (n : Int) : Bool := decide (-100000 ≤ n ∧ n ≤ 100000)
def Zrb (q : Int) (ok : Bool) (w : World) (e : Ending) (w' : World) : Prop := ∃ A c, e = .returned (.tuple #[.agg #[.bool (decide (q < 0)), .slice A (digs q.natAbs).length c], .bool ok]) ∧ Dg w' A c (digs q.natAbs) ∧ Below w.heap.size w w'
theorem zlen_up (x : Int) (k : Nat) : (digs (x * 2 ^ k).natAbs).length ≤ (digs x.natAbs).length + k / 32 + 1 := by
  have e : (x * 2 ^ k).natAbs = x.natAbs * 2 ^ k := by rw [Int.natAbs_mul, Int.natAbs_pow]; rfl
  rw [e]
  exact digs_shl_len x.natAbs k
theorem ediv_abs (x : Int) (k : Nat) : (x / 2 ^ k).natAbs ≤ x.natAbs := Int.natAbs_ediv_le_natAbs x _
theorem zlen_dn (x : Int) (k : Nat) : (digs (x / 2 ^ k).natAbs).length ≤ (digs x.natAbs).length := digs_len_mono _ _ (ediv_abs x k)
theorem zlen_shz (x n : Int) : (digs (shz x n).natAbs).length ≤ (digs x.natAbs).length + 3126 := by
  unfold shz
  split
  · rw [digs_int0]; simp
  · split
    · have := zlen_up x n.toNat; omega
    · have := zlen_dn x (-n).toNat; omega
section
variable {A B : Option Addr} {c d n m : Nat} {s r : Bool} {xs ys : List Nat} {x y : Int} {w : World}
theorem zdiv_w {u v : Int} {ok : Bool} (h : Dg w A c xs) (h' : Dg w B d ys) (hx : sg s (val xs) = x) (hy : sg r (val ys) = y) (hl : xs.length ≤ 500000) (hl' : ys.length ≤ 500000) (hu : Int.fdiv x y = u) (hv : divr x y = v) (hok : decide (y ≠ 0) = ok) :
    Calls Tryd.prog 14 #[.agg #[.bool s, .slice A xs.length c], .agg #[.bool r, .slice B ys.length d]] w fun e w' => Zr3 u v ok w e w' := by
  subst hu hv hok
  by_cases h0 : y = 0
  · subst h0
    refine (zdiv_z_no h h' hy hl hl').mono ?_
    rintro e w' ⟨rfl, hb⟩
    rw [Int.fdiv_zero]
    have e2 : divr x 0 = 0 := by unfold divr; simp
    rw [e2]
    exact zr3_none hb
  · refine (zdiv_z h h' hx hy hl hl' h0 rfl rfl).mono ?_
    rintro e w' ⟨A1, c1, B1, d1, rfl, hd, hd', hb⟩
    have e2 : divr x y = x.fmod y := by unfold divr; rw [if_neg h0]
    rw [e2]
    exact ⟨A1, c1, B1, d1, by rw [decide_eq_true h0], hd, hd', hb⟩
theorem zrb_of {q : Int} {e : Ending} {w' : World} (h : Zb q w e w') : Zrb q true w e w' := h
theorem zrb_none {w' : World} (h : Below w.heap.size w w') : Zrb 0 false w (.returned (.tuple #[.agg #[.bool false, .slice none 0 0], .bool false])) w' :=
  ⟨none, 0, by rw [digs_int0]; rfl, by rw [digs_int0]; exact Dg.nil_ _ _, h⟩
end
theorem shz_up {x n : Int} (h0 : 0 ≤ n) (h1 : n ≤ 100000) : shz x n = x * 2 ^ n.toNat := by
  unfold shz; rw [if_neg (by omega), if_pos h0]
theorem shz_dn {x n k : Int} (h : n = -k) (h0 : 0 ≤ k) (h1 : k ≤ 100000) : shz x n = x / 2 ^ k.toNat := by
  subst h
  unfold shz
  rw [if_neg (by omega)]
  by_cases hk : k = 0
  · subst hk; simp
  · rw [if_neg (by omega), Int.neg_neg]
theorem shb_in {n : Int} (h0 : -100000 ≤ n) (h1 : n ≤ 100000) : shb n = true := decide_eq_true ⟨h0, h1⟩
theorem digs_one_len : (digs (1 : Int).natAbs).length ≤ 1 := by show (digs 1).length ≤ 1; rw [digs_one (by omega) (by omega)]; simp
theorem fdiv_pow (x : Int) (k : Nat) : Int.fdiv x (2 ^ k) = x / 2 ^ k := Int.fdiv_eq_ediv_of_nonneg _ (Int.le_of_lt (Int.pow_pos (by omega)))
theorem two_ways (x : Int) {n m : Int} (hn : 0 ≤ n) (hm : 0 ≤ m) : x / 2 ^ n.toNat / 2 ^ m.toNat = x / 2 ^ (n + m).toNat := by
  rw [Int.ediv_ediv_of_nonneg (Int.le_of_lt (Int.pow_pos (by omega))), ← Int.pow_add, Int.toNat_add hn hm]
theorem smallz_in {x : Int} (h0 : -9223372036854775808 ≤ x) (h1 : x ≤ 9223372036854775807) : smallz x = x := if_pos ⟨h0, h1⟩
theorem smallb_in {x : Int} (h0 : -9223372036854775808 ≤ x) (h1 : x ≤ 9223372036854775807) : smallb x = true := decide_eq_true ⟨h0, h1⟩
theorem mul_bd {a b : Int} (a0 : -2147483648 ≤ a) (a9 : a ≤ 2147483647) (b0 : -2147483648 ≤ b) (b9 : b ≤ 2147483647) : -4611686018427387904 ≤ a * b ∧ a * b ≤ 4611686018427387904 := by
  have h : (a * b).natAbs ≤ 2147483648 * 2147483648 := by rw [Int.natAbs_mul]; exact Nat.mul_le_mul (by omega) (by omega)
  omega
theorem tdiv_ex {a b : Int} (hb : b ≠ 0) (h : a.tmod b = 0) : a.tdiv b = a.fdiv b := by
  have e := Int.mul_tdiv_add_tmod a b
  rw [h, Int.add_zero] at e
  have h2 := Int.mul_fdiv_cancel_left (a.tdiv b) hb
  rw [e] at h2
  exact h2.symm
theorem tdiv_uniq {a b q : Int} (hb : b ≠ 0) (h : (a - q * b).natAbs < b.natAbs) (hs : a - q * b = 0 ∨ decide (a - q * b < 0) = decide (b < 0)) : a.fdiv b = q := by
  have e := Int.mul_fdiv_add_fmod a b
  have f := fmod_bd a hb
  generalize a.fdiv b = u at *
  generalize a.fmod b = v at *
  have e2 : b * (u - q) = (a - q * b) - v := by rw [Int.mul_sub, Int.mul_comm b q]; omega
  have hz : u - q = 0 := by
    rcases Int.lt_trichotomy (u - q) 0 with h1 | h1 | h1
    · exfalso
      have h3 : b.natAbs ≤ (b * (u - q)).natAbs := by rw [Int.natAbs_mul]; exact Nat.le_mul_of_pos_right _ (by omega)
      rw [e2] at h3
      by_cases hv : v = 0
      · omega
      · have := f.2 hv
        rcases hs with hs | hs
        · omega
        · rw [← hs, decide_eq_decide] at this; omega
    · exact h1
    · exfalso
      have h3 : b.natAbs ≤ (b * (u - q)).natAbs := by rw [Int.natAbs_mul]; exact Nat.le_mul_of_pos_right _ (by omega)
      rw [e2] at h3
      by_cases hv : v = 0
      · omega
      · have := f.2 hv
        rcases hs with hs | hs
        · omega
        · rw [← hs, decide_eq_decide] at this; omega
  omega
theorem tmod_bd (a : Int) {b : Int} (hb : b ≠ 0) : (a.tmod b).natAbs < b.natAbs ∧ (a.tmod b ≠ 0 → decide (a.tmod b < 0) = decide (a < 0)) := by
  have h1 : (a.tmod b).natAbs = a.natAbs % b.natAbs := Int.natAbs_tmod a b
  refine ⟨by rw [h1]; exact Nat.mod_lt _ (by omega), fun h => ?_⟩
  by_cases ha : a < 0
  · have := Int.tmod_nonneg (-b) (show 0 ≤ -a by omega)
    rw [Int.neg_tmod, Int.tmod_neg] at this
    rw [decide_eq_true ha, decide_eq_true (by omega)]
  · have := Int.tmod_nonneg b (show 0 ≤ a by omega)
    rw [decide_eq_false (by omega), decide_eq_false (by omega)]
theorem tdiv_same {a b : Int} (hb : b ≠ 0) (h : a.tmod b ≠ 0) (hs : (a < 0) = (b < 0)) : a.tdiv b = a.fdiv b := by
  have e := Int.mul_tdiv_add_tmod a b
  have f := tmod_bd a hb
  have e2 : a - a.tdiv b * b = a.tmod b := by rw [Int.mul_comm]; omega
  exact (tdiv_uniq hb (by rw [e2]; exact f.1) (.inr (by rw [e2, f.2 h]; simp [hs]))).symm
theorem tdiv_less {a b : Int} (hb : b ≠ 0) (h : a.tmod b ≠ 0) (hs : (a < 0) ≠ (b < 0)) : a.tdiv b = a.fdiv b + 1 := by
  have e := Int.mul_tdiv_add_tmod a b
  have f := tmod_bd a hb
  have e2 : a - (a.tdiv b - 1) * b = a.tmod b + b := by rw [Int.sub_mul, Int.mul_comm]; omega
  have h1 := f.2 h
  rw [decide_eq_decide] at h1
  have hs' : ¬ (a < 0 ↔ b < 0) := fun e => hs (propext e)
  have := tdiv_uniq (a := a) (q := a.tdiv b - 1) hb (by rw [e2]; omega) (.inr (by rw [e2, decide_eq_decide]; omega))
  omega
end Go.Proofs.YtcciibejachjkaaDoor
end

section
/-
  zint.Text and astrolaberef04.Text, of any number.
-/
namespace Go.Proofs.YtcciibejachjkaaDoor
open Go.RowKit Go.Sort
/-- The decimal digits of a whole number. -/
def tz (z : Int) : List UInt8 := if z = 0 then [48] else (if z < 0 then [45] else []) ++ Lib.decDigits z.natAbs
set_option maxHeartbeats 2000000 in
set_option maxRecDepth 100000 in
theorem ztext_zero (A : Option Addr) (c : Nat) (s : Bool) (xs : List Nat) (w : World) (h : Dg w A c xs) (hl : xs.length ≤ 1000) (h0 : val xs = 0) :
    Calls Tryd.prog 9 #[.agg #[.bool s, .slice A xs.length c]] w fun e w' => e = .returned (.string ⟨#[48]⟩) ∧ Below w.heap.size w w' := by
  have TA := Lib.hid (fun W h => take_any A c s xs W h (by omega))
  rw [h0, digs_zero] at TA
  clear h0 hl
  go_enter Tryd.func9, Tryd.ntmps9
  go_wp2_with fail
  refine (TA.out _ (h.below (below1 _ _))).mono ?_
  rintro e w1 ⟨A1, c1, rfl, hd, hb⟩
  have K1 := Lib.hid ((below1 w _).trans (hb.mono (by simp)))
  clear hb hd h TA
  go_wp2_with fail
  refine (zero_any A1 _ c1 _ true rfl).mono ?_
  rintro e w2 ⟨rfl, hb⟩
  have K2 := Lib.hid (K1.out.trans (((below1 _ _).trans (hb.mono (by simp))).mono K1.out.size))
  clear hb
  go_wp2
  go_ret
  exact ⟨rfl, K2.out⟩
theorem ztext_z {A : Option Addr} {c : Nat} {s : Bool} {xs : List Nat} {x : Int} {t : List UInt8} {w : World} (h : Dg w A c xs) (hx : sg s (val xs) = x) (hl : xs.length ≤ 1000) (htab : P10 w) (ht : tz x = t) :
    Calls Tryd.prog 9 #[.agg #[.bool s, .slice A xs.length c]] w fun e w' => e = .returned (.string ⟨t.toArray⟩) ∧ Below w.heap.size w w' := by
  subst ht
  rcases Nat.eq_zero_or_pos (val xs) with h0 | h0
  · have e : x = 0 := by rw [← hx, h0]; unfold sg; cases s <;> rfl
    subst e
    exact ztext_zero A c s xs w h hl h0
  · have e : tz x = textOne s (val xs) := by
      have h1 := sg_abs s (val xs)
      rw [hx] at h1
      have h2 : x ≠ 0 := by intro e; rw [e] at h1; simp at h1; omega
      unfold tz textOne
      rw [if_neg h2, h1]
      have h3 : (x < 0) = (s = true) := by
        rw [← hx]; unfold sg; cases s <;> simp <;> omega
      simp only [h3]
    rw [e]
    exact ztext_pos A c s xs w h hl h0 htab
theorem cv1 {w : World} (d : Nat) (hd : d < 10) :
    (convert 48 9 (.slice (some ⟨w.heap.size, 0, none⟩) 1 1)).run Tryd.prog (w.alloc (.cells #[.int .u8 (48 + (d : Int))] 5)) = .ok (.string ⟨#[UInt8.ofNat (48 + d)]⟩) (w.alloc (.cells #[.int .u8 (48 + (d : Int))] 5)) := by
  refine own_string (l := [UInt8.ofNat (48 + d)]) (n := 1) (base := w.heap.size) ?_ rfl (by omega)
  have h := World.ownsRow_lit (base := w.heap.size) (e := 5) (size := 1) w #[.int .u8 (48 + (d : Int))] 1 (Nat.le_refl _) (by unfold maxLen; omega) rfl
  have e : Lib.byteCells [UInt8.ofNat (48 + d)] = [.int .u8 (48 + (d : Int))] := by
    unfold Lib.byteCells
    simp
    omega
  rw [e]
  exact h
theorem dec_room {m n : Nat} (hn : 0 < n) (h : m < 4294967296 ^ n) : (Lib.decDigits m).length ≤ 11 * n := by
  refine dec_len m (11 * n) (Nat.lt_of_lt_of_le h ?_) (by omega)
  have h2 : (4294967296 : Nat) ^ n = 2 ^ (32 * n) := by rw [show (4294967296 : Nat) = 2 ^ 32 by decide, ← Nat.pow_mul]
  have h3 : (2 : Nat) ^ (33 * n) = 8 ^ (11 * n) := by rw [show (8 : Nat) = 2 ^ 3 by decide, ← Nat.pow_mul]; congr 1; omega
  rw [h2]
  refine Nat.le_trans (Nat.pow_le_pow_right (by omega) (show 32 * n ≤ 33 * n by omega)) ?_
  rw [h3]
  exact Nat.pow_le_pow_left (by omega) _
theorem cons_str (b : UInt8) (l : List UInt8) : (⟨#[b]⟩ : ByteArray) ++ ⟨l.toArray⟩ = ⟨(b :: l).toArray⟩ := by
  apply ByteArray.ext
  simp [ByteArray.data_append]
end Go.Proofs.YtcciibejachjkaaDoor
end

section
/-
  A whole number's text, character by character: what the law that reads it by tens wants. Plain words.
-/
namespace Go.Proofs.YtcciibejachjkaaDoor
open Go.RowKit
/-- Where the digits of a text begin. -/
def frm (x : Int) : Nat := if x < 0 then 1 else 0
/-- What is read of x's text ahead of place i. -/
def tn (x : Int) (i : Nat) : Nat := tens ((Lib.decDigits x.natAbs).take (i - frm x))
theorem tz_eq (x : Int) : tz x = (if x < 0 then [45] else []) ++ Lib.decDigits x.natAbs := by
  unfold tz
  by_cases h : x = 0
  · subst h; rw [if_pos rfl, if_neg (by omega)]; exact (dd_one rfl).symm
  · rw [if_neg h]
theorem tz_len (x : Int) : (tz x).length = frm x + (Lib.decDigits x.natAbs).length := by
  rw [tz_eq, List.length_append]; unfold frm; split <;> rfl
theorem tz_bt (x : Int) (i : Nat) (h : frm x ≤ i) : Bt (tz x) i = Bt (Lib.decDigits x.natAbs) (i - frm x) := by
  rw [tz_eq]
  have hl : (if x < 0 then [45] else [] : List UInt8).length = frm x := by unfold frm; split <;> rfl
  have e : i = (if x < 0 then [45] else [] : List UInt8).length + (i - frm x) := by omega
  conv => lhs; rw [e]
  unfold Bt
  rw [List.getElem?_append_right (by omega), Nat.add_sub_cancel_left]
theorem tz_sign (x : Int) (h : x < 0) : Bt (tz x) 0 = 45 := by
  rw [tz_eq, if_pos h]; rfl
theorem tz_digit (x : Int) (i : Nat) (h : frm x ≤ i) (h' : i < (tz x).length) : 48 ≤ Bt (tz x) i ∧ Bt (tz x) i ≤ 57 := by
  rw [tz_bt x i h]
  rw [tz_len] at h'
  exact dd_bt (by omega)
theorem tz_head (x : Int) (h : Bt (tz x) (frm x) = 48) : (tz x).length = 1 := by
  rw [tz_bt x _ (Nat.le_refl _), Nat.sub_self] at h
  by_cases h0 : x.natAbs = 0
  · obtain rfl : x = 0 := by omega
    rfl
  · exact absurd h (dd_head _ h0)
theorem tn_zero (x : Int) : tn x (frm x) = 0 := by unfold tn; rw [Nat.sub_self]; rfl
theorem tn_step (x : Int) (i : Nat) (h : frm x ≤ i) (h' : i < (tz x).length) : tn x (i + 1) = tn x i * 10 + (Bt (tz x) i - 48) := by
  rw [tz_len] at h'
  unfold tn
  rw [tz_bt x i h, show i + 1 - frm x = (i - frm x) + 1 by omega, tens_take (by omega)]
theorem tn_all (x : Int) : tn x (tz x).length = x.natAbs := by
  unfold tn
  rw [tz_len, Nat.add_sub_cancel_left, List.take_length, tens_dec]
theorem tn_le (x : Int) (i : Nat) : tn x i ≤ x.natAbs := by
  have := tens_le (Lib.decDigits x.natAbs) (i - frm x)
  rw [tens_dec] at this; exact this
theorem tz_long (x : Int) : frm x < (tz x).length := by
  rw [tz_len]; have := dd_len x.natAbs; omega
end Go.Proofs.YtcciibejachjkaaDoor
end

section
/-
  What the law that reads a text by tens calls, by whole numbers.
-/
namespace Go.Proofs.YtcciibejachjkaaDoor
open Go.RowKit
theorem zadd_n {A B : Option Addr} {c d : Nat} {p q z : Int} {w : World} (h : Dg w A c (digs p.natAbs)) (h' : Dg w B d (digs q.natAbs)) (hl : (digs p.natAbs).length ≤ 1000000) (hl' : (digs q.natAbs).length ≤ 1000000) (hz : p + q = z) :
    Calls Tryd.prog 11 #[.agg #[.bool (decide (p < 0)), .slice A (digs p.natAbs).length c], .agg #[.bool (decide (q < 0)), .slice B (digs q.natAbs).length d]] w fun e w' => Zr z w e w' := by
  have := zadd_any A B c d (decide (p < 0)) (decide (q < 0)) (digs p.natAbs) (digs q.natAbs) w h h' hl hl'
  rw [sg_dz, sg_dz, hz] at this; exact this
theorem zmul_n {A B : Option Addr} {c d : Nat} {p q z : Int} {w : World} (h : Dg w A c (digs p.natAbs)) (h' : Dg w B d (digs q.natAbs)) (hl : (digs p.natAbs).length ≤ 500000) (hl' : (digs q.natAbs).length ≤ 500000) (hz : p * q = z) :
    Calls Tryd.prog 12 #[.agg #[.bool (decide (p < 0)), .slice A (digs p.natAbs).length c], .agg #[.bool (decide (q < 0)), .slice B (digs q.natAbs).length d]] w fun e w' => Zr z w e w' := by
  have := zmul_any A B c d (decide (p < 0)) (decide (q < 0)) (digs p.natAbs) (digs q.natAbs) w h h' hl hl'
  rw [sg_dz, sg_dz, hz] at this; exact this
/-- The digits of what was read, under the sign. -/
theorem zmk_n {A : Option Addr} {c : Nat} {m z : Int} {w : World} (h : Dg w A c (digs z.natAbs)) (hl : (digs z.natAbs).length ≤ 1000000) (hz : z.natAbs = m.natAbs) :
    Calls Tryd.prog 5 #[.bool (decide (m < 0)), .slice A (digs z.natAbs).length c] w fun e w' => Zr m w e w' := by
  have := zmake_any A c (decide (m < 0)) (digs z.natAbs) w h hl
  rw [hz, sg_dz] at this
  rw [hz]; exact this
theorem same_n {A B : Option Addr} {c d : Nat} {m : Int} {w : World} (h : Dg w A c (digs m.natAbs)) (h' : Dg w B d (digs m.natAbs)) (hl : (digs m.natAbs).length ≤ 16777216) :
    Calls Tryd.prog 8 #[.agg #[.bool (decide (m < 0)), .slice A (digs m.natAbs).length c], .agg #[.bool (decide (m < 0)), .slice B (digs m.natAbs).length d]] w fun e w' => e = .returned (.bool true) ∧ Below w.heap.size w w' :=
  same_any A B c d _ _ w h h' hl
theorem ztx_n {A : Option Addr} {c : Nat} {m : Int} {t : ByteArray} {w : World} (h : Dg w A c (digs m.natAbs)) (hl : (digs m.natAbs).length ≤ 1000) (htab : P10 w) (ht : t.data.toList = tz m) :
    Calls Tryd.prog 9 #[.agg #[.bool (decide (m < 0)), .slice A (digs m.natAbs).length c]] w fun e w' => e = .returned (.string t) ∧ Below w.heap.size w w' := by
  have := ztext_z (s := decide (m < 0)) (t := t.data.toList) h (sg_dz m) hl htab ht.symm
  exact this
end Go.Proofs.YtcciibejachjkaaDoor
end

section
/-
  A region that draws its order, whose last store may come ahead of what stands behind it ('x, ok := f(g(a), b)': the store into x's new box, and ok's part of the answer).
-/
namespace Go.Proofs.YtcciibejachjkaaDoor
open Go.RowKit
section
variable {P : Program} {ops : Array Oper} {Q : Exit → Act → World → Prop} {md : Region.Mode}
theorem wpAny_phaseP {Pb Ob : Nat → Bool} (I : Array Bool → Act → World → Prop) (hb : backB md ops = true) (hne : ∃ j, j < ops.size ∧ Ob j = false)
    (hP : ∀ i, i < ops.size → Ob i = false → ∀ k, k < ops.size → Pb k = true → waitsT md ops ops.size i k = true)
    (step : ∀ l a w i, I l a w → l.size = ops.size → i < ops.size → Ob i = true → i ∈ Region.ready md ops l → wpOp P ops Q i (fun a' w' => I (l.setIfInBounds i true) a' w') a w)
    (fin : ∀ l a w, I l a w → l.size = ops.size → (∀ i, i < ops.size → Pb i = true → l.getD i false = true) → (∀ i, i < ops.size → Ob i = false → l.getD i false = false) → ∀ fuel, still l ≤ fuel → wpAny P md ops Q fuel l a w) :
    ∀ (fuel : Nat) (l : Array Bool) (a : Act) (w : World), still l ≤ fuel → l.size = ops.size → Down md ops l → (∀ k, k < ops.size → Ob k = false → l.getD k false = false) → I l a w → wpAny P md ops Q fuel l a w := by
  intro fuel
  induction fuel with
  | zero =>
    intro l a w hf hl hd hno hI
    exfalso
    obtain ⟨j, hj, hjp⟩ := hne
    have h1 := hno j hj hjp
    have h2 : l.getD j true = false := by
      have : j < l.size := by omega
      simp [this] at h1 ⊢; exact h1
    have := still_set h2
    omega
  | succ fuel ih =>
    intro l a w hf hl hd hno hI
    by_cases hall : ∀ k, k < ops.size → Pb k = true → l.getD k false = true
    · exact fin l a w hI hl hall hno _ hf
    · refine ⟨fun hr => ?_, fun i hi => ?_⟩
      · exfalso
        obtain ⟨j, hj, hjp⟩ := hne
        have := all_of_back hb hl hr j hj
        rw [hno j hj hjp] at this; cases this
      · have hiu := (mem_ready.1 hi).1
        have hin : i < ops.size := by
          rcases Nat.lt_or_ge i l.size with h' | h'
          · omega
          · simp [Array.getElem?_eq_none h'] at hiu
        have hip : Ob i = true := by
          cases hp : Ob i
          · exfalso; apply hall
            intro k hk hkp
            exact hd.ready hi (hP i hin hp k hk hkp)
          · rfl
        have hst := still_set hiu
        refine wpOp_mono (fun a' w' h' => ih _ a' w' (by omega) (by simpa using hl) (hd.set hi) (fun k hk hkp => ?_) h') (step l a w i hI hl hin hip hi)
        have : i ≠ k := by rintro rfl; rw [hip] at hkp; cases hkp
        rw [getD_set_ne false this]; exact hno k hk hkp
/-- Two in either order, and one behind them. -/
theorem wpAny_late {L0 : Array Bool} {x y z : Nat} {a : Act} {w : World} {fuel : Nat} (hf : 3 ≤ fuel) (r1 : Region.ready md ops L0 = [x, y]) (r2 : Region.ready md ops (L0.setIfInBounds x true) = [y]) (r3 : Region.ready md ops (L0.setIfInBounds y true) = [x])
    (r4 : Region.ready md ops ((L0.setIfInBounds x true).setIfInBounds y true) = [z]) (r5 : Region.ready md ops ((L0.setIfInBounds y true).setIfInBounds x true) = [z])
    (r6 : Region.ready md ops (((L0.setIfInBounds x true).setIfInBounds y true).setIfInBounds z true) = []) (r7 : Region.ready md ops (((L0.setIfInBounds y true).setIfInBounds x true).setIfInBounds z true) = [])
    (h1 : wpOps P ops Q [x, y, z] a w) (h2 : wpOps P ops Q [y, x, z] a w) : wpAny P md ops Q fuel L0 a w := by
  obtain ⟨f, rfl⟩ : ∃ f, fuel = f + 1 + 1 + 1 := ⟨fuel - 3, by omega⟩
  have hend : ∀ l a w, Region.ready md ops l = [] → Q .normal a w → wpAny P md ops Q f l a w := by
    intro l a w hr hq
    cases f with
    | zero => exact ⟨hr, hq⟩
    | succ f => exact ⟨fun _ => hq, fun i hi => by rw [hr] at hi; cases hi⟩
  simp only [wpOps_cons] at h1 h2
  refine ⟨fun hr => (by rw [r1] at hr; cases hr), fun i hi => ?_⟩
  rw [r1] at hi
  simp only [List.mem_cons, List.not_mem_nil, or_false] at hi
  rcases hi with rfl | rfl
  · refine wpOp_mono (fun a w h => ⟨fun hr => (by rw [r2] at hr; cases hr), fun j hj => ?_⟩) h1
    rw [r2] at hj; simp only [List.mem_cons, List.not_mem_nil, or_false] at hj; subst hj
    refine wpOp_mono (fun a w h => ⟨fun hr => (by rw [r4] at hr; cases hr), fun j hj => ?_⟩) h
    rw [r4] at hj; simp only [List.mem_cons, List.not_mem_nil, or_false] at hj; subst hj
    exact wpOp_mono (fun a w h => hend _ _ _ r6 h) h
  · refine wpOp_mono (fun a w h => ⟨fun hr => (by rw [r3] at hr; cases hr), fun j hj => ?_⟩) h2
    rw [r3] at hj; simp only [List.mem_cons, List.not_mem_nil, or_false] at hj; subst hj
    refine wpOp_mono (fun a w h => ⟨fun hr => (by rw [r5] at hr; cases hr), fun j hj => ?_⟩) h
    rw [r5] at hj; simp only [List.mem_cons, List.not_mem_nil, or_false] at hj; subst hj
    exact wpOp_mono (fun a w h => hend _ _ _ r7 h) h
theorem wpAny_two {L0 : Array Bool} {y z : Nat} {a : Act} {w : World} {fuel : Nat} (hf : 2 ≤ fuel) (r1 : Region.ready md ops L0 = [y]) (r2 : Region.ready md ops (L0.setIfInBounds y true) = [z]) (r3 : Region.ready md ops ((L0.setIfInBounds y true).setIfInBounds z true) = [])
    (h1 : wpOps P ops Q [y, z] a w) : wpAny P md ops Q fuel L0 a w := by
  obtain ⟨f, rfl⟩ : ∃ f, fuel = f + 1 + 1 := ⟨fuel - 2, by omega⟩
  have hend : ∀ l a w, Region.ready md ops l = [] → Q .normal a w → wpAny P md ops Q f l a w := by
    intro l a w hr hq
    cases f with
    | zero => exact ⟨hr, hq⟩
    | succ f => exact ⟨fun _ => hq, fun i hi => by rw [hr] at hi; cases hi⟩
  simp only [wpOps_cons] at h1
  refine ⟨fun hr => (by rw [r1] at hr; cases hr), fun i hi => ?_⟩
  rw [r1] at hi; simp only [List.mem_cons, List.not_mem_nil, or_false] at hi; subst hi
  refine wpOp_mono (fun a w h => ⟨fun hr => (by rw [r2] at hr; cases hr), fun j hj => ?_⟩) h1
  rw [r2] at hj; simp only [List.mem_cons, List.not_mem_nil, or_false] at hj; subst hj
  exact wpOp_mono (fun a w h => hend _ _ _ r3 h) h
/-- Loads, calls and new boxes in whatever order; behind them a store, and the last one; and one (x) that may come ahead of the store or behind it. D: the operands' slots; S: their numbers, but x. -/
theorem wp_operands_late {id : Nat} {a0 : Act} {W : World} (hm : P.follows .mixedOrders = true) (x y z : Nat) (S : List Nat) (D : List Tmp) (R : Nat → Value → World → Prop)
    (hn : ((List.range ops.size).all fun i => S.contains i || i == x || i == y || i == z) = true) (hb : backB .any ops = true) (hx : x < ops.size ∧ y < ops.size ∧ z < ops.size ∧ x ≠ y ∧ x ≠ z ∧ y ≠ z)
    (hS : (S.all fun i => decide (i < ops.size) && decide (i ≠ x) && decide (i ≠ y) && decide (i ≠ z)) = true)
    (ht : ([y, z].all fun i => S.all fun k => waitsT .any ops ops.size i k) = true) (hw : ((x :: S).all fun i => (List.range ops.size).all fun k => !waitsB .any ops i k || S.contains k) = true)
    (hnd : ((x :: S).map (D.getD · 0)).Nodup) (hin : ((x :: S).all fun i => decide (D.getD i 0 < a0.tmps.size)) = true)
    (r1 : Region.ready .any ops ((List.range ops.size).map (S.contains ·)).toArray = [x, y]) (r2 : Region.ready .any ops (((List.range ops.size).map (S.contains ·)).toArray.setIfInBounds x true) = [y]) (r3 : Region.ready .any ops (((List.range ops.size).map (S.contains ·)).toArray.setIfInBounds y true) = [x])
    (r4 : Region.ready .any ops ((((List.range ops.size).map (S.contains ·)).toArray.setIfInBounds x true).setIfInBounds y true) = [z]) (r5 : Region.ready .any ops ((((List.range ops.size).map (S.contains ·)).toArray.setIfInBounds y true).setIfInBounds x true) = [z])
    (r6 : Region.ready .any ops (((((List.range ops.size).map (S.contains ·)).toArray.setIfInBounds x true).setIfInBounds y true).setIfInBounds z true) = []) (r7 : Region.ready .any ops (((((List.range ops.size).map (S.contains ·)).toArray.setIfInBounds y true).setIfInBounds x true).setIfInBounds z true) = [])
    (st : ∀ i u w w', i ∈ x :: S → R i u w → Below w.heap.size w w' → R i u w')
    (step : ∀ i a w K, i ∈ x :: S → Fr6 ((x :: S).map (D.getD · 0)) a0 a → Below W.heap.size W w → (∀ k, waitsB .any ops i k = true → R k (a.tmps.getD (D.getD k 0) undef) w) →
      (∀ u w', R i u w' → Below w.heap.size w w' → K (a.put (some (D.getD i 0)) u) w') → wpOp P ops Q i K a w)
    (fin : ∀ a w, Fr6 ((x :: S).map (D.getD · 0)) a0 a → Below W.heap.size W w → (∀ i, i ∈ S → R i (a.tmps.getD (D.getD i 0) undef) w) → (wpOps P ops Q [x, y, z] a w ∧ wpOps P ops Q [y, x, z] a w) ∧ (R x (a.tmps.getD (D.getD x 0) undef) w → wpOps P ops Q [y, z] a w)) :
    (Code.region id ops true).wp P Q a0 W := by
  have memS : ∀ i, i ∈ S → i < ops.size := fun i hi => by
    rw [List.all_eq_true] at hS
    have := hS i hi
    simp only [Bool.and_eq_true, decide_eq_true_eq] at this
    exact this.1.1.1
  have notS : ∀ i, i ∈ S → i ≠ x ∧ i ≠ y ∧ i ≠ z := fun i hi => by
    rw [List.all_eq_true] at hS
    have := hS i hi
    simp only [Bool.and_eq_true, decide_eq_true_eq] at this
    exact ⟨this.1.1.2, this.1.2, this.2⟩
  have memO : ∀ i, i ∈ x :: S → i < ops.size := fun i hi => by
    rcases List.mem_cons.1 hi with rfl | h
    · exact hx.1
    · exact memS i h
  have hlt : ∀ i, i ∈ x :: S → D.getD i 0 < a0.tmps.size := fun i hi => by
    rw [List.all_eq_true] at hin
    simpa using hin i hi
  have hne : ∀ i j, i ∈ x :: S → j ∈ x :: S → i ≠ j → D.getD i 0 ≠ D.getD j 0 := fun i j hi hj h e => by
    obtain ⟨p, hp, hpe⟩ := List.getElem_of_mem hi
    obtain ⟨q, hq, hqe⟩ := List.getElem_of_mem hj
    have h1 : ((x :: S).map (D.getD · 0))[p]'(by simpa using hp) = ((x :: S).map (D.getD · 0))[q]'(by simpa using hq) := by
      rw [List.getElem_map, List.getElem_map, hpe, hqe]; exact e
    have h2 := (List.getElem_inj hnd).1 h1
    subst h2
    exact h (hpe.symm.trans hqe)
  have hmem : ∀ i, i ∈ x :: S → D.getD i 0 ∈ (x :: S).map (D.getD · 0) := fun i hi => List.mem_map.2 ⟨i, hi, rfl⟩
  have hrest : ∀ i, i < ops.size → (x :: S).contains i = false → i = y ∨ i = z := by
    intro i hi hc
    rw [List.all_eq_true] at hn
    have h1 := hn i (List.mem_range.2 hi)
    have h2 : i ∉ x :: S := fun hm => by rw [List.contains_iff_mem.2 hm] at hc; cases hc
    simp only [List.mem_cons, not_or] at h2
    have h3 : S.contains i = false := by
      cases h4 : S.contains i
      · rfl
      · exact absurd (List.contains_iff_mem.1 h4) h2.2
    rw [h3] at h1
    have h5 : (i == x) = false := by simpa using h2.1
    rw [h5] at h1
    simpa using h1
  have yO : (x :: S).contains y = false := by
    cases hc : (x :: S).contains y
    · rfl
    · rcases List.mem_cons.1 (List.contains_iff_mem.1 hc) with h | h
      · exact absurd h.symm hx.2.2.2.1
      · exact absurd rfl (notS y h).2.1
  have zO : (x :: S).contains z = false := by
    cases hc : (x :: S).contains z
    · rfl
    · rcases List.mem_cons.1 (List.contains_iff_mem.1 hc) with h | h
      · exact absurd h.symm hx.2.2.2.2.1
      · exact absurd rfl (notS z h).2.2
  have zz : ∀ j, (Array.replicate ops.size false).getD j false = false := by intro j; simp [Array.getElem?_replicate]; split <;> rfl
  refine wp_region_any hm (wpAny_phaseP (Pb := fun i => S.contains i) (Ob := fun i => (x :: S).contains i) (fun l a w => Fr6 ((x :: S).map (D.getD · 0)) a0 a ∧ Below W.heap.size W w ∧ (∀ i, i ∈ x :: S → l.getD i false = true → R i (a.tmps.getD (D.getD i 0) undef) w)) hb
    ⟨y, hx.2.1, yO⟩ ?_ ?_ ?_ _ _ _ _ ?_ (by simp) ?_ ?_ ?_)
  · intro i hi hc k hk hkp
    rw [List.all_eq_true] at ht
    have hi3 : i ∈ [y, z] := by rcases hrest i hi hc with rfl | rfl <;> simp
    have := ht i hi3
    rw [List.all_eq_true] at this
    exact this k (List.contains_iff_mem.1 hkp)
  · rintro l a w i ⟨hF, hbw, hR⟩ hl hi hip hir
    have hiS := List.contains_iff_mem.1 hip
    have ps : a.tmps.size = a0.tmps.size := hF.2.1
    refine step i a w _ hiS hF hbw (fun k hk => hR k ?_ (waits_spec hk hir)) (fun u w' hu hbb => ⟨hF.put (hmem i hiS) _, hbw.trans (hbb.mono hbw.size), fun j hj hjl => ?_⟩)
    · rw [List.all_eq_true] at hw
      have h1 := hw i hiS
      rw [List.all_eq_true] at h1
      have hks : k < ops.size := by
        rcases Nat.lt_or_ge k ops.size with h | h
        · exact h
        · exfalso
          have := waits_spec hk hir
          have h2 : l.size ≤ k := by omega
          simp [Array.getElem?_eq_none h2] at this
      have h2 := h1 k (List.mem_range.2 hks)
      rw [hk] at h2
      exact List.mem_cons_of_mem _ (List.contains_iff_mem.1 (by simpa using h2))
    · by_cases hij : i = j
      · subst hij; rw [put_same _ _ _ (by rw [ps]; exact hlt i hiS)]; exact hu
      · rw [getD_set_ne false hij] at hjl
        rw [put_other _ _ _ _ (hne i j hiS hj hij)]
        exact st j _ _ _ hj (hR j hj hjl) hbb
  · rintro l a w ⟨hF, hbw, hR⟩ hl hall hno fuel hfu
    have hf := fin a w hF hbw (fun i hi => hR i (List.mem_cons_of_mem _ hi) (hall i (memS i hi) (List.contains_iff_mem.2 hi)))
    have gt : ∀ (m : Array Bool) (j : Nat), j < m.size → m.getD j false = false → m.getD j true = false := by
      intro m j hj h
      simp [hj] at h ⊢; exact h
    have ly := gt l y (by have := hx.2.1; omega) (hno y hx.2.1 yO)
    have lz := gt l z (by have := hx.2.2.1; omega) (hno z hx.2.2.1 zO)
    have hval : ∀ i, i < ops.size → i ≠ x → l.getD i false = S.contains i := by
      intro i hi hix
      cases hc : S.contains i
      · refine hno i hi ?_
        cases hc2 : (x :: S).contains i
        · rfl
        · rcases List.mem_cons.1 (List.contains_iff_mem.1 hc2) with h | h
          · exact absurd h hix
          · rw [List.contains_iff_mem.2 h] at hc; cases hc
      · exact hall i hi hc
    have xS : S.contains x = false := by
      cases hc : S.contains x
      · rfl
      · exact absurd rfl (notS x (List.contains_iff_mem.1 hc)).1
    have two : 2 ≤ still l := by
      have s1 := still_set ly
      have e2 : (l.setIfInBounds y true).getD z true = false := by rw [getD_set_ne true hx.2.2.2.2.2]; exact lz
      have s2 := still_set e2
      omega
    cases hlx : l.getD x false
    · have hlL : l = ((List.range ops.size).map (S.contains ·)).toArray := by
        apply Array.ext
        · simp [hl]
        · intro i h1 h2
          have : l.getD i false = S.contains i := by
            by_cases hix : i = x
            · rw [hix, hlx, xS]
            · exact hval i (by omega) hix
          simp only [Array.getD_eq_getD_getElem?, Array.getElem?_eq_getElem h1, Option.getD_some] at this
          rw [this]; simp
      have lx := gt l x (by have := hx.1; omega) hlx
      have three : 3 ≤ still l := by
        have s1 := still_set lx
        have e1 : (l.setIfInBounds x true).getD y true = false := by rw [getD_set_ne true hx.2.2.2.1]; exact ly
        have s2 := still_set e1
        have e2 : ((l.setIfInBounds x true).setIfInBounds y true).getD z true = false := by rw [getD_set_ne true hx.2.2.2.2.2, getD_set_ne true hx.2.2.2.2.1]; exact lz
        have s3 := still_set e2
        omega
      rw [hlL]
      exact wpAny_late (by omega) r1 r2 r3 r4 r5 r6 r7 hf.1.1 hf.1.2
    · have hlL : l = (((List.range ops.size).map (S.contains ·)).toArray.setIfInBounds x true) := by
        apply Array.ext
        · simp [hl]
        · intro i h1 h2
          by_cases hix : i = x
          · subst hix
            simp only [Array.getD_eq_getD_getElem?, Array.getElem?_eq_getElem h1, Option.getD_some] at hlx
            rw [hlx]; simp
          · have := hval i (by omega) hix
            simp only [Array.getD_eq_getD_getElem?, Array.getElem?_eq_getElem h1, Option.getD_some] at this
            rw [this, Array.getElem_setIfInBounds]
            rw [if_neg (fun e => hix e.symm)]; simp
            exact (by simp; omega)
      rw [hlL]
      exact wpAny_two (by omega) r2 r4 r6 (hf.2 (hR x (List.mem_cons_self ..) hlx))
  · unfold still; exact Nat.le_trans (List.count_le_length) (by simp)
  · exact fun j hj => absurd hj (by rw [zz]; simp)
  · exact fun k _ _ => zz k
  · exact ⟨⟨rfl, rfl, fun _ _ => rfl⟩, ⟨rfl, rfl, rfl, Nat.le_refl _, fun _ _ => rfl⟩, fun i _ hi => absurd hi (by rw [zz]; simp)⟩
end
end Go.Proofs.YtcciibejachjkaaDoor
end

section
/-
  From a law's walk to its statement: what comes in is opened, read again behind the call, and handed on.
-/
namespace Go.Proofs.YtcciibejachjkaaDoor
open Go.RowKit Go.WideShapes Go.ChangeShapes Go.ChangeAt
set_option maxRecDepth 100000
theorem own : ownKnob Tryd.prog.godebug = none := by kernel_rfl
theorem laidOut : laidOutB Tryd.prog = true := by kernel_rfl
theorem below_cell_lt {w : World} {b o : Nat} {v : Value} (h : w.cell? ⟨b, o, none⟩ = some v) : b < w.heap.size := by
  rcases Nat.lt_or_ge b w.heap.size with hlt | hge
  · exact hlt
  · have e := Array.getElem?_eq_none hge
    simp [World.cell?, e] at h
theorem cellsElem : Tryd.prog.cellsOf 51 = 1 := by kernel_rfl
/-- A slice of digits that came in. -/
theorem open_dg {H : Type} {enc : TypeId × Value → H} {W : World} {base : Nat} {spare : Nat → Bool} {held : Bool} {v : Value} {d : DataW H} {ps : List MemPlace}
    (hval : Value.okWide Tryd.prog W .any base 22 v) (hd : DataW.Trod enc Tryd.prog W 0 spare held 22 v d ps) : ∃ A c xs, v = .slice A xs.length c ∧ Dg W A c xs := by
  obtain ⟨a0, len, cap, rfl⟩ := okWide_slice Tryd.underlying22 hval
  obtain ⟨fuel, hf⟩ := hd
  rcases open_ints Tryd.underlying22 Tryd.underlying51 cellsElem hf with ⟨hcs, _⟩ | ⟨a, len', cap', zs, hcs, _, hl, hm, hz, _, hcell, hwz⟩
  · simp [Value.cells] at hcs
    obtain ⟨rfl, rfl, rfl⟩ := hcs
    exact ⟨none, 0, [], rfl, Dg.nil_ _ _⟩
  · simp [Value.cells] at hcs
    obtain ⟨rfl, rfl, rfl⟩ := hcs
    have hlz : len ≤ zs.length := by rw [hz]; split <;> omega
    have hn : ∀ n ∈ zs, 0 ≤ n ∧ n ≤ 4294967295 := fun n hn => by simpa [Lit.wf, IntKind.min, IntKind.max, IntKind.signed, IntKind.bits] using hwz n hn
    have hxl : ((zs.take len).map Int.toNat).length = len := by simp; omega
    refine ⟨some a, cap, (zs.take len).map Int.toNat, by rw [hxl], by rw [hxl]; exact hl, ?_, fun h0 => ?_⟩
    · intro x hx
      obtain ⟨z, hz', rfl⟩ := List.mem_map.1 hx
      have := hn z (List.mem_of_mem_take hz')
      omega
    · rw [hxl] at h0
      obtain ⟨b, off, spot⟩ := a
      have hspot : spot = none := by simpa [Addr.add] using World.cell?_spot (hcell 0 (by omega))
      subst hspot
      refine ⟨b, off, rfl, below_cell_lt (v := .int .u32 (zs.getD 0 0)) (o := off) (by have := hcell 0 (by omega); simpa [Addr.add] using this), fun j hj => ?_⟩
      rw [hxl] at hj
      have hc := hcell j (by omega)
      rw [Addr.add_lit] at hc
      rw [hc]
      have hjz : j < zs.length := by omega
      have hb := hn zs[j] (List.getElem_mem hjz)
      simp [hj, List.getElem?_eq_getElem hjz]
      omega
section
variable {H : Type} {enc : TypeId × Value → H} {P : Program}
/-- A law's end: true; older memory stays; each argument reads as it read. -/
theorem law_post {f : Func} {s : ChangeSpec} {W W' : World} {args : Array Value} {ds : List (DataW H)} {before : List MemPlace} {tb : TypeId}
    (hW : DataW.Whole enc P f.params.toList s.vars false W args.toList ds [] before) (hb : Below W.heap.size W W') (hv : s.vars = []) (hrt : f.resultTypes = #[tb]) (htb : P.underlying tb = some .bool)
    (hsr : (s.fn H (ds ++ [])).results = [.lit (.bool true)]) (hsv : (s.fn H (ds ++ [])).vars = [])
    (hargs : ∀ sp : Nat → Bool, (∀ p ∈ before, sp p.block = true) → DataW.TrodAll enc P W' 0 sp true f.params.toList args.toList (s.fn H (ds ++ [])).args before) :
    s.post enc P f false true false false W args (.bool true) W' := by
  have hlt : ∀ p ∈ before, p.block < W.heap.size := fun p hp => hW.lt p hp
  have hold : ∀ p ∈ before, (fun b => decide (b < W.heap.size)) p.block = true := fun p hp => by simpa using hlt p hp
  have hvars : ∀ sp : Nat → Bool, DataW.TrodVars enc P W' sp s.vars (s.fn H (ds ++ [])).vars [] := fun sp => by rw [hv, hsv]; rfl
  refine ⟨ds, [], before, [], before, [], hW, ?_, hargs _ hold, hvars _, World.keptBut_mono (fun p hp => ⟨hp, by simpa using hp⟩) (hb.frame (· ∈ before)), fun h => by cases h⟩
  rw [hrt, hsr]
  exact trodAll_cons_mk (shut_bool htb _) trodAll_mk0
end
/-- An argument reads behind the call as it read ahead of it. -/
theorem again {H : Type} {enc : TypeId × Value → H} {W W' : World} {t : TypeId} {v : Value} {d : DataW H} {ps : List MemPlace} (hr : Tryd.prog.readableRec t = true) (hrow : t < Tryd.prog.types.size)
    (h : DataW.Trod enc Tryd.prog W 0 (fun _ => true) true t v d ps) (hb : Below W.heap.size W W') (hlt : ∀ x ∈ ps, x.block < W.heap.size) (sp : Nat → Bool) (hsp : ∀ x ∈ ps, sp x.block = true) :
    DataW.Trod enc Tryd.prog W' 0 sp true t v d ps :=
  WideElems.Trod_stays laidOut hr hrow h (fun x hx => hb.same (hlt x hx)) hsp
end Go.Proofs.YtcciibejachjkaaDoor
end

section
/-
  From a walk of layer 4 to its card: what the laid tables give, and a whole number that comes in.
-/
namespace Go.Proofs.YtcciibejachjkaaDoor
open Go.RowKit Go.WideShapes Go.ChangeShapes Go.ChangeAt Go.Deep
set_option maxRecDepth 100000
theorem i64_lo {a : Int} (g : (Lit.int .i64 a).wf = true) : -9223372036854775808 ≤ a := by
  simp only [Lit.wf, Bool.and_eq_true, decide_eq_true_eq] at g; exact g.1
theorem i64_hi {a : Int} (g : (Lit.int .i64 a).wf = true) : a ≤ 9223372036854775807 := by
  simp only [Lit.wf, Bool.and_eq_true, decide_eq_true_eq] at g; exact g.2
theorem i32_lo {a : Int} (g : (Lit.int .i32 a).wf = true) : -2147483648 ≤ a := by
  simp only [Lit.wf, Bool.and_eq_true, decide_eq_true_eq] at g; exact g.1
theorem i32_hi {a : Int} (g : (Lit.int .i32 a).wf = true) : a ≤ 2147483647 := by
  simp only [Lit.wf, Bool.and_eq_true, decide_eq_true_eq] at g; exact g.2
theorem gPow : Tryd.prog.globalNamed "internal/strconv.uint64pow10" = some 1 := by kernel_rfl
theorem tPow : (Tryd.prog.globals[1]?).map (·.type) = some 110 := by kernel_rfl
/-- THE TABLE OF POWERS, out of the row's condition. -/
theorem p10_laid {W : World} {a b : String × DataW Unit} (h : laidMet Tryd.prog (a :: b :: ("internal/strconv.uint64pow10", Lib.tabData .u64 Lib.pow10Tab) :: []) W) : P10 W :=
  Lib.tabIs_of_head gPow tPow Tryd.underlying110 Tryd.underlying56 (by kernel_rfl) (by kernel_rfl) h.tail.tail
/-- Digits that came in as a part. -/
theorem open_dg0 {H : Type} {enc : TypeId × Value → H} {W : World} {spare : Nat → Bool} {held : Bool} {a0 : Option Addr} {len cap : Nat} {y : DataW H × List MemPlace}
    (hd : ∃ n, DataW.trod enc Tryd.prog W 0 spare held n 22 [.slice a0 len cap] = some y) : ∃ A c xs, Value.slice a0 len cap = .slice A xs.length c ∧ Dg W A c xs ∧ xs.length ≤ 9223372036854775807 := by
  obtain ⟨fuel, hf⟩ := hd
  obtain ⟨d, ps⟩ := y
  rcases open_ints Tryd.underlying22 Tryd.underlying51 cellsElem hf with ⟨hcs, _⟩ | ⟨a, len', cap', zs, hcs, _, hl, hm, hz, _, hcell, hwz⟩
  · simp at hcs
    obtain ⟨rfl, rfl, rfl⟩ := hcs
    exact ⟨none, 0, [], rfl, Dg.nil_ _ _, by simp⟩
  · simp at hcs
    obtain ⟨rfl, rfl, rfl⟩ := hcs
    have hlz : len ≤ zs.length := by rw [hz]; split <;> omega
    have hn : ∀ n ∈ zs, 0 ≤ n ∧ n ≤ 4294967295 := fun n hn => by simpa [Lit.wf, IntKind.min, IntKind.max, IntKind.signed, IntKind.bits] using hwz n hn
    have hxl : ((zs.take len).map Int.toNat).length = len := by simp; omega
    refine ⟨some a, cap, (zs.take len).map Int.toNat, by rw [hxl], ⟨by rw [hxl]; exact hl, ?_, fun h0 => ?_⟩, by rw [hxl]; unfold maxLen at hm; omega⟩
    · intro x hx
      obtain ⟨z, hz', rfl⟩ := List.mem_map.1 hx
      have := hn z (List.mem_of_mem_take hz')
      omega
    · rw [hxl] at h0
      obtain ⟨b, off, spot⟩ := a
      have hspot : spot = none := by simpa [Addr.add] using World.cell?_spot (hcell 0 (by omega))
      subst hspot
      refine ⟨b, off, rfl, below_cell_lt (v := .int .u32 (zs.getD 0 0)) (o := off) (by have := hcell 0 (by omega); simpa [Addr.add] using this), fun j hj => ?_⟩
      rw [hxl] at hj
      have hc := hcell j (by omega)
      rw [Addr.add_lit] at hc
      rw [hc]
      have hjz : j < zs.length := by omega
      have hb := hn zs[j] (List.getElem_mem hjz)
      simp [hj, List.getElem?_eq_getElem hjz]
      omega
/-- A whole number that came in. -/
theorem open_z {H : Type} {enc : TypeId × Value → H} {W : World} {base : Nat} {v : Value} {d : DataW H} {ps : List MemPlace}
    (hval : Value.okWide Tryd.prog W .any base 24 v) (hd : DataW.Trod enc Tryd.prog W 0 (fun _ => true) true 24 v d ps) :
    ∃ s A c xs, v = .agg #[.bool s, .slice A xs.length c] ∧ Dg W A c xs ∧ xs.length ≤ 9223372036854775807 := by
  obtain ⟨v0, v1, y0, y1, n, rfl, _, _, h0, h1⟩ := Go.Joins.open_agg2 Tryd.underlying24 (by kernel_rfl) (by kernel_rfl) hval hd
  obtain ⟨s, e0, _⟩ := DataW.trod_bool Tryd.underlying4 h0
  obtain rfl : v0 = .bool s := by simpa using e0
  obtain ⟨a0, len, cap, e1⟩ := Go.Joins.slice_form Tryd.underlying22 h1
  obtain rfl : v1 = .slice a0 len cap := by simpa using e1
  obtain ⟨A, c, xs, e, g⟩ := open_dg0 ⟨n, h1⟩
  exact ⟨s, A, c, xs, by rw [e], g⟩
end Go.Proofs.YtcciibejachjkaaDoor
end
