import Derived.Test.YthgkdpfkaobgoaaDoorM6
import Derived.Test.YthgkdpfkaobgoaaDoorM5
section
/-
  Quotient and rest, and what is moved, whatever the divisor and the way: for the laws of chapter 4.
-/
namespace Go.Proofs.YthgkdpfkaobgoaaDoor
open Go.RowKit
set_option maxRecDepth 100000
def divr (x y : Int) : Int := if y = 0 then 0 else x.fmod y
def Zr3 (u v : Int) (ok : Bool) (w : World) (e : Ending) (w' : World) : Prop := ∃ A c B d, e = .returned (.tuple #[.agg #[.bool (decide (u < 0)), .slice A (digs u.natAbs).length c], .agg #[.bool (decide (v < 0)), .slice B (digs v.natAbs).length d], .bool ok]) ∧ Dg w' A c (digs u.natAbs) ∧ Dg w' B d (digs v.natAbs) ∧ Below w.heap.size w w'
theorem digs_int0 : digs (0 : Int).natAbs = [] := digs_zero
theorem zr3_none {w w' : World} (h : Below w.heap.size w w') : Zr3 0 0 false w (.returned (.tuple #[.agg #[.bool false, .slice none 0 0], .agg #[.bool false, .slice none 0 0], .bool false])) w' :=
  ⟨none, 0, none, 0, by rw [digs_int0]; rfl, by rw [digs_int0]; exact Dg.nil_ _ _, by rw [digs_int0]; exact Dg.nil_ _ _, h⟩
theorem zlen_divr (x y : Int) : (digs (divr x y).natAbs).length ≤ (digs y.natAbs).length := by
  unfold divr
  split
  · rw [digs_int0]; simp
  · rename_i h; exact zlen_fmod x h
/-- What is moved. -/
def shz (x n : Int) : Int := if n < -100000 ∨ 100000 < n then 0 else if 0 ≤ n then x * 2 ^ n.toNat else x / 2 ^ (-n).toNat
def shb (n : Int) : Bool := decide (-100000 ≤ n ∧ n ≤ 100000)
def Zrb (q : Int) (ok : Bool) (w : World) (e : Ending) (w' : World) : Prop := ∃ A c, e = .returned (.tuple #[.agg #[.bool (decide (q < 0)), .slice A (digs q.natAbs).length c], .bool ok]) ∧ Dg w' A c (digs q.natAbs) ∧ Below w.heap.size w w'
theorem zlen_up (x : Int) (k : Nat) : (digs (x * 2 ^ k).natAbs).length ≤ (digs x.natAbs).length + k / 32 + 1 := by
  have e : (x * 2 ^ k).natAbs = x.natAbs * 2 ^ k := by rw [Int.natAbs_mul, Int.natAbs_pow]; rfl
  rw [e]
  exact digs_shl_len x.natAbs k
theorem ediv_abs (x : Int) (k : Nat) : (x / 2 ^ k).natAbs ≤ x.natAbs := Int.natAbs_ediv_le_natAbs x _
theorem zlen_dn (x : Int) (k : Nat) : (digs (x / 2 ^ k).natAbs).length ≤ (digs x.natAbs).length := digs_len_mono _ _ (ediv_abs x k)
theorem zlen_shz (x n : Int) : (digs (shz x n).natAbs).length ≤ (digs x.natAbs).length + 3126 := by
  unfold shz
  split
  · rw [digs_int0]; simp
  · split
    · have := zlen_up x n.toNat; omega
    · have := zlen_dn x (-n).toNat; omega
section
variable {A B : Option Addr} {c d n m : Nat} {s r : Bool} {xs ys : List Nat} {x y : Int} {w : World}
theorem zdiv_w {u v : Int} {ok : Bool} (h : Dg w A c xs) (h' : Dg w B d ys) (hx : sg s (val xs) = x) (hy : sg r (val ys) = y) (hl : xs.length ≤ 500000) (hl' : ys.length ≤ 500000) (hu : Int.fdiv x y = u) (hv : divr x y = v) (hok : decide (y ≠ 0) = ok) :
    Calls Tryd.prog 33 #[.agg #[.bool s, .slice A xs.length c], .agg #[.bool r, .slice B ys.length d]] w fun e w' => Zr3 u v ok w e w' := by
  subst hu hv hok
  by_cases h0 : y = 0
  · subst h0
    refine (zdiv_z_no h h' hy hl hl').mono ?_
    rintro e w' ⟨rfl, hb⟩
    rw [Int.fdiv_zero]
    have e2 : divr x 0 = 0 := by unfold divr; simp
    rw [e2]
    exact zr3_none hb
  · refine (zdiv_z h h' hx hy hl hl' h0 rfl rfl).mono ?_
    rintro e w' ⟨A1, c1, B1, d1, rfl, hd, hd', hb⟩
    have e2 : divr x y = x.fmod y := by unfold divr; rw [if_neg h0]
    rw [e2]
    exact ⟨A1, c1, B1, d1, by rw [decide_eq_true h0], hd, hd', hb⟩
theorem rzdiv_w {u v : Int} {ok : Bool} (h : Dg w A c xs) (h' : Dg w B d ys) (hx : sg s (val xs) = x) (hy : sg r (val ys) = y) (hl : xs.length ≤ 100000) (hl' : ys.length ≤ 100000) (hu : Int.fdiv x y = u) (hv : divr x y = v) (hok : decide (y ≠ 0) = ok) :
    Calls Tryd.prog 34 #[.agg #[.bool s, .slice A xs.length c], .agg #[.bool r, .slice B ys.length d]] w fun e w' => Zr3 u v ok w e w' := by
  subst hu hv hok
  by_cases h0 : y = 0
  · subst h0
    refine (rzdiv_z_no h h' hy hl hl').mono ?_
    rintro e w' ⟨rfl, hb⟩
    rw [Int.fdiv_zero]
    have e2 : divr x 0 = 0 := by unfold divr; simp
    rw [e2]
    exact zr3_none hb
  · refine (rzdiv_z h h' hx hy hl hl' h0 rfl rfl).mono ?_
    rintro e w' ⟨A1, c1, B1, d1, rfl, hd, hd', hb⟩
    have e2 : divr x y = x.fmod y := by unfold divr; rw [if_neg h0]
    rw [e2]
    exact ⟨A1, c1, B1, d1, by rw [decide_eq_true h0], hd, hd', hb⟩
theorem zrb_of {q : Int} {e : Ending} {w' : World} (h : Zb q w e w') : Zrb q true w e w' := h
theorem zrb_none {w' : World} (h : Below w.heap.size w w') : Zrb 0 false w (.returned (.tuple #[.agg #[.bool false, .slice none 0 0], .bool false])) w' :=
  ⟨none, 0, by rw [digs_int0]; rfl, by rw [digs_int0]; exact Dg.nil_ _ _, h⟩
theorem zshift_w {n q : Int} {ok : Bool} (h : Dg w A c xs) (hx : sg s (val xs) = x) (hl : xs.length ≤ 100000) (hq : shz x n = q) (hok : shb n = ok) :
    Calls Tryd.prog 35 #[.agg #[.bool s, .slice A xs.length c], .int .i64 n] w fun e w' => Zrb q ok w e w' := by
  subst hq hok hx
  unfold shz shb
  by_cases h0 : n < -100000 ∨ 100000 < n
  · rw [if_pos h0, decide_eq_false (by omega)]
    refine (zshift_no A c s xs n w h0).mono ?_
    rintro e w' ⟨rfl, hb⟩
    exact zrb_none hb
  · rw [if_neg h0, decide_eq_true (by omega)]
    by_cases h1 : 0 ≤ n
    · rw [if_pos h1]
      have := zshift_up A c s xs n.toNat w h (by omega) (by omega)
      rw [Int.toNat_of_nonneg h1] at this
      exact this.mono fun _ _ g => zrb_of g
    · rw [if_neg h1]
      exact (zshift_down A c s xs (-n).toNat n w h (by omega) (by omega) (by omega) (by omega)).mono fun _ _ g => zrb_of g
theorem rzshift_w {n q : Int} {ok : Bool} (h : Dg w A c xs) (hx : sg s (val xs) = x) (hl : xs.length ≤ 100000) (hq : shz x n = q) (hok : shb n = ok) :
    Calls Tryd.prog 36 #[.agg #[.bool s, .slice A xs.length c], .int .i64 n] w fun e w' => Zrb q ok w e w' := by
  subst hq hok hx
  unfold shz shb
  by_cases h0 : n < -100000 ∨ 100000 < n
  · rw [if_pos h0, decide_eq_false (by omega)]
    refine (rzshift_no A c s xs n w h0).mono ?_
    rintro e w' ⟨rfl, hb⟩
    exact zrb_none hb
  · rw [if_neg h0, decide_eq_true (by omega)]
    by_cases h1 : 0 ≤ n
    · rw [if_pos h1]
      have := rzshift_up A c s xs n.toNat w h (by omega) (by omega)
      rw [Int.toNat_of_nonneg h1] at this
      exact this.mono fun _ _ g => zrb_of g
    · rw [if_neg h1]
      exact (rzshift_down A c s xs (-n).toNat n w h (by omega) (by omega) (by omega) (by omega)).mono fun _ _ g => zrb_of g
end
theorem shz_up {x n : Int} (h0 : 0 ≤ n) (h1 : n ≤ 100000) : shz x n = x * 2 ^ n.toNat := by
  unfold shz; rw [if_neg (by omega), if_pos h0]
theorem shz_dn {x n k : Int} (h : n = -k) (h0 : 0 ≤ k) (h1 : k ≤ 100000) : shz x n = x / 2 ^ k.toNat := by
  subst h
  unfold shz
  rw [if_neg (by omega)]
  by_cases hk : k = 0
  · subst hk; simp
  · rw [if_neg (by omega), Int.neg_neg]
theorem shb_in {n : Int} (h0 : -100000 ≤ n) (h1 : n ≤ 100000) : shb n = true := decide_eq_true ⟨h0, h1⟩
theorem digs_one_len : (digs (1 : Int).natAbs).length ≤ 1 := by show (digs 1).length ≤ 1; rw [digs_one (by omega) (by omega)]; simp
theorem fdiv_pow (x : Int) (k : Nat) : Int.fdiv x (2 ^ k) = x / 2 ^ k := Int.fdiv_eq_ediv_of_nonneg _ (Int.le_of_lt (Int.pow_pos (by omega)))
theorem two_ways (x : Int) {n m : Int} (hn : 0 ≤ n) (hm : 0 ≤ m) : x / 2 ^ n.toNat / 2 ^ m.toNat = x / 2 ^ (n + m).toNat := by
  rw [Int.ediv_ediv_of_nonneg (Int.le_of_lt (Int.pow_pos (by omega))), ← Int.pow_add, Int.toNat_add hn hm]
theorem smallz_in {x : Int} (h0 : -9223372036854775808 ≤ x) (h1 : x ≤ 9223372036854775807) : smallz x = x := if_pos ⟨h0, h1⟩
theorem smallb_in {x : Int} (h0 : -9223372036854775808 ≤ x) (h1 : x ≤ 9223372036854775807) : smallb x = true := decide_eq_true ⟨h0, h1⟩
theorem mul_bd {a b : Int} (a0 : -2147483648 ≤ a) (a9 : a ≤ 2147483647) (b0 : -2147483648 ≤ b) (b9 : b ≤ 2147483647) : -4611686018427387904 ≤ a * b ∧ a * b ≤ 4611686018427387904 := by
  have h : (a * b).natAbs ≤ 2147483648 * 2147483648 := by rw [Int.natAbs_mul]; exact Nat.mul_le_mul (by omega) (by omega)
  omega
theorem tdiv_ex {a b : Int} (hb : b ≠ 0) (h : a.tmod b = 0) : a.tdiv b = a.fdiv b := by
  have e := Int.mul_tdiv_add_tmod a b
  rw [h, Int.add_zero] at e
  have h2 := Int.mul_fdiv_cancel_left (a.tdiv b) hb
  rw [e] at h2
  exact h2.symm
theorem tdiv_uniq {a b q : Int} (hb : b ≠ 0) (h : (a - q * b).natAbs < b.natAbs) (hs : a - q * b = 0 ∨ decide (a - q * b < 0) = decide (b < 0)) : a.fdiv b = q := by
  have e := Int.mul_fdiv_add_fmod a b
  have f := fmod_bd a hb
  generalize a.fdiv b = u at *
  generalize a.fmod b = v at *
  have e2 : b * (u - q) = (a - q * b) - v := by rw [Int.mul_sub, Int.mul_comm b q]; omega
  have hz : u - q = 0 := by
    rcases Int.lt_trichotomy (u - q) 0 with h1 | h1 | h1
    · exfalso
      have h3 : b.natAbs ≤ (b * (u - q)).natAbs := by rw [Int.natAbs_mul]; exact Nat.le_mul_of_pos_right _ (by omega)
      rw [e2] at h3
      by_cases hv : v = 0
      · omega
      · have := f.2 hv
        rcases hs with hs | hs
        · omega
        · rw [← hs, decide_eq_decide] at this; omega
    · exact h1
    · exfalso
      have h3 : b.natAbs ≤ (b * (u - q)).natAbs := by rw [Int.natAbs_mul]; exact Nat.le_mul_of_pos_right _ (by omega)
      rw [e2] at h3
      by_cases hv : v = 0
      · omega
      · have := f.2 hv
        rcases hs with hs | hs
        · omega
        · rw [← hs, decide_eq_decide] at this; omega
  omega
theorem tmod_bd (a : Int) {b : Int} (hb : b ≠ 0) : (a.tmod b).natAbs < b.natAbs ∧ (a.tmod b ≠ 0 → decide (a.tmod b < 0) = decide (a < 0)) := by
  have h1 : (a.tmod b).natAbs = a.natAbs % b.natAbs := Int.natAbs_tmod a b
  refine ⟨by rw [h1]; exact Nat.mod_lt _ (by omega), fun h => ?_⟩
  by_cases ha : a < 0
  · have := Int.tmod_nonneg (-b) (show 0 ≤ -a by omega)
    rw [Int.neg_tmod, Int.tmod_neg] at this
    rw [decide_eq_true ha, decide_eq_true (by omega)]
  · have := Int.tmod_nonneg b (show 0 ≤ a by omega)
    rw [decide_eq_false (by omega), decide_eq_false (by omega)]
theorem tdiv_same {a b : Int} (hb : b ≠ 0) (h : a.tmod b ≠ 0) (hs : (a < 0) = (b < 0)) : a.tdiv b = a.fdiv b := by
  have e := Int.mul_tdiv_add_tmod a b
  have f := tmod_bd a hb
  have e2 : a - a.tdiv b * b = a.tmod b := by rw [Int.mul_comm]; omega
  exact (tdiv_uniq hb (by rw [e2]; exact f.1) (.inr (by rw [e2, f.2 h]; simp [hs]))).symm
theorem tdiv_less {a b : Int} (hb : b ≠ 0) (h : a.tmod b ≠ 0) (hs : (a < 0) ≠ (b < 0)) : a.tdiv b = a.fdiv b + 1 := by
  have e := Int.mul_tdiv_add_tmod a b
  have f := tmod_bd a hb
  have e2 : a - (a.tdiv b - 1) * b = a.tmod b + b := by rw [Int.sub_mul, Int.mul_comm]; omega
  have h1 := f.2 h
  rw [decide_eq_decide] at h1
  have hs' : ¬ (a < 0 ↔ b < 0) := fun e => hs (propext e)
  have := tdiv_uniq (a := a) (q := a.tdiv b - 1) hb (by rw [e2]; omega) (.inr (by rw [e2, decide_eq_decide]; omega))
  omega
end Go.Proofs.YthgkdpfkaobgoaaDoor
end

section
/-
  zint.Text and astrolaberef04.Text, of any number.
-/
namespace Go.Proofs.YthgkdpfkaobgoaaDoor
open Go.RowKit Go.Sort
/-- The decimal digits of a whole number. -/
def tz (z : Int) : List UInt8 := if z = 0 then [48] else (if z < 0 then [45] else []) ++ Lib.decDigits z.natAbs
set_option maxHeartbeats 2000000 in
set_option maxRecDepth 100000 in
theorem ztext_zero (A : Option Addr) (c : Nat) (s : Bool) (xs : List Nat) (w : World) (h : Dg w A c xs) (hl : xs.length ≤ 1000) (h0 : val xs = 0) :
    Calls Tryd.prog 41 #[.agg #[.bool s, .slice A xs.length c]] w fun e w' => e = .returned (.string ⟨#[48]⟩) ∧ Below w.heap.size w w' := by
  have TA := Lib.hid (fun W h => take_any A c s xs W h (by omega))
  rw [h0, digs_zero] at TA
  clear h0 hl
  go_enter Tryd.func41, Tryd.ntmps41
  go_wp2_with fail
  refine (TA.out _ (h.below (below1 _ _))).mono ?_
  rintro e w1 ⟨A1, c1, rfl, hd, hb⟩
  have K1 := Lib.hid ((below1 w _).trans (hb.mono (by simp)))
  clear hb hd h TA
  go_wp2_with fail
  refine (zero_any A1 _ c1 _ true rfl).mono ?_
  rintro e w2 ⟨rfl, hb⟩
  have K2 := Lib.hid (K1.out.trans (((below1 _ _).trans (hb.mono (by simp))).mono K1.out.size))
  clear hb
  go_wp2
  go_ret
  exact ⟨rfl, K2.out⟩
theorem ztext_z {A : Option Addr} {c : Nat} {s : Bool} {xs : List Nat} {x : Int} {t : List UInt8} {w : World} (h : Dg w A c xs) (hx : sg s (val xs) = x) (hl : xs.length ≤ 1000) (htab : P10 w) (ht : tz x = t) :
    Calls Tryd.prog 41 #[.agg #[.bool s, .slice A xs.length c]] w fun e w' => e = .returned (.string ⟨t.toArray⟩) ∧ Below w.heap.size w w' := by
  subst ht
  rcases Nat.eq_zero_or_pos (val xs) with h0 | h0
  · have e : x = 0 := by rw [← hx, h0]; unfold sg; cases s <;> rfl
    subst e
    exact ztext_zero A c s xs w h hl h0
  · have e : tz x = textOne s (val xs) := by
      have h1 := sg_abs s (val xs)
      rw [hx] at h1
      have h2 : x ≠ 0 := by intro e; rw [e] at h1; simp at h1; omega
      unfold tz textOne
      rw [if_neg h2, h1]
      have h3 : (x < 0) = (s = true) := by
        rw [← hx]; unfold sg; cases s <;> simp <;> omega
      simp only [h3]
    rw [e]
    exact ztext_pos A c s xs w h hl h0 htab
theorem cv1 {w : World} (d : Nat) (hd : d < 10) :
    (convert 81 9 (.slice (some ⟨w.heap.size, 0, none⟩) 1 1)).run Tryd.prog (w.alloc (.cells #[.int .u8 (48 + (d : Int))] 5)) = .ok (.string ⟨#[UInt8.ofNat (48 + d)]⟩) (w.alloc (.cells #[.int .u8 (48 + (d : Int))] 5)) := by
  refine own_string (l := [UInt8.ofNat (48 + d)]) (n := 1) (base := w.heap.size) ?_ rfl (by omega)
  have h := World.ownsRow_lit (base := w.heap.size) (e := 5) (size := 1) w #[.int .u8 (48 + (d : Int))] 1 (Nat.le_refl _) (by unfold maxLen; omega) rfl
  have e : Lib.byteCells [UInt8.ofNat (48 + d)] = [.int .u8 (48 + (d : Int))] := by
    unfold Lib.byteCells
    simp
    omega
  rw [e]
  exact h
theorem dec_room {m n : Nat} (hn : 0 < n) (h : m < 4294967296 ^ n) : (Lib.decDigits m).length ≤ 11 * n := by
  refine dec_len m (11 * n) (Nat.lt_of_lt_of_le h ?_) (by omega)
  have h2 : (4294967296 : Nat) ^ n = 2 ^ (32 * n) := by rw [show (4294967296 : Nat) = 2 ^ 32 by decide, ← Nat.pow_mul]
  have h3 : (2 : Nat) ^ (33 * n) = 8 ^ (11 * n) := by rw [show (8 : Nat) = 2 ^ 3 by decide, ← Nat.pow_mul]; congr 1; omega
  rw [h2]
  refine Nat.le_trans (Nat.pow_le_pow_right (by omega) (show 32 * n ≤ 33 * n by omega)) ?_
  rw [h3]
  exact Nat.pow_le_pow_left (by omega) _
theorem cons_str (b : UInt8) (l : List UInt8) : (⟨#[b]⟩ : ByteArray) ++ ⟨l.toArray⟩ = ⟨(b :: l).toArray⟩ := by
  apply ByteArray.ext
  simp [ByteArray.data_append]
set_option maxHeartbeats 8000000 in
set_option maxRecDepth 100000 in
theorem rtext_z {A : Option Addr} {c : Nat} {s : Bool} {xs : List Nat} {x : Int} {t : List UInt8} {w : World} (h : Dg w A c xs) (hx : sg s (val xs) = x) (hl : xs.length ≤ 1000) (ht : tz x = t) :
    Calls Tryd.prog 42 #[.agg #[.bool s, .slice A xs.length c]] w fun e w' => e = .returned (.string ⟨t.toArray⟩) ∧ Below w.heap.size w w' := by
  subst ht
  have MK := Lib.hid (fun W h => rzmake_z (A := A) (c := c) (w := W) h hx (by omega))
  have lx := zlen_raw h.2.1 hx
  have LX := Lib.hid (Nat.le_trans lx hl)
  clear hx lx
  go_enter Tryd.func42, Tryd.ntmps42
  go_wp2_with fail
  refine (MK.out _ (h.below (below1 _ _))).mono ?_
  rintro e w1 ⟨A1, c1, rfl, hd, hb⟩
  have K1 := Lib.hid ((below1 w _).trans (hb.mono (by simp)))
  have G1 := Lib.hid hd
  clear hb hd h MK hl
  by_cases h0 : x = 0
  · subst h0
    rw [digs_int0]
    go_wp2
    go_ret
    exact ⟨rfl, K1.out.trans ((below1 w1 _).mono K1.out.size)⟩
  · have d0 : 0 < (digs x.natAbs).length := by
      rcases Nat.eq_zero_or_pos (digs x.natAbs).length with h1 | h1
      · have := digs_nil.1 h1; omega
      · exact h1
    have q0 : (((digs x.natAbs).length : Int) == 0) = false := len_ne (by omega)
    have ETZ := Lib.hid (show tz x = (if x < 0 then [45] else []) ++ Lib.decDigits x.natAbs by unfold tz; rw [if_neg h0])
    obtain ⟨m, hm⟩ : ∃ m, x.natAbs = m := ⟨_, rfl⟩
    rw [hm] at ETZ G1 d0 q0 LX
    rw [hm]
    have m0 : m ≠ 0 := by omega
    have M0 := Lib.hid m0
    have DM := Lib.hid (show (Lib.decDigits m).length ≤ 11000 by have h1 := dec_room d0 (by have h9 := val_lt (ok_digs m); rw [val_digs] at h9; exact h9); have h2 := LX.out; omega)
    obtain ⟨ng, hng⟩ : ∃ b, decide (x < 0) = b := ⟨_, rfl⟩
    have HNG := Lib.hid hng
    rw [hng]
    clear hm h0 m0 d0 hng
    go_wp2_with fail
    obtain ⟨w2, hW⟩ : ∃ W : World, W = w1.alloc (.cells #[.bool ng, .slice A1 (digs m).length c1] 24) := ⟨_, rfl⟩
    rw [← hW]
    have R2 := Lib.hid (show w2.heap[w1.heap.size]? = some (.cells #[.bool ng, .slice A1 (digs m).length c1] 24 (0, 0)) by rw [hW]; exact heap_alloc_new _ _)
    have K2 := Lib.hid (show Below w.heap.size w w2 by rw [hW]; exact K1.out.trans ((below1 w1 _).mono K1.out.size))
    have G2 := Lib.hid (show Dg w2 A1 c1 (digs m) by rw [hW]; exact G1.out.below (below1 _ _))
    clear hW q0
    go_loopg [5, 4] m (fun g lv sv wr => ∃ (A' : Option Addr) (c' : Nat) (acc : List UInt8), lv = .slice A' (digs g).length c' ∧ sv = .string ⟨acc.toArray⟩ ∧ Hid (Dg wr A' c' (digs g)) ∧ Hid (decN g ++ acc = Lib.decDigits m) ∧ Hid (Below w2.heap.size w2 wr) ∧ Hid ((digs g).length ≤ 1000))
    case atStart => exact ⟨A1, c1, [], rfl, rfl, G2, Lib.hid (by rw [decN_pos M0.out, List.append_nil]), Lib.hid (Below.refl _ _), LX⟩
    case round =>
      obtain ⟨A', c', acc, rfl, rfl, HG, HD, HB, HL⟩ := hrel
      have hal : acc.length ≤ 11000 := by have h := congrArg List.length HD.out; rw [List.length_append] at h; have := DM.out; omega
      by_cases hg0 : gk = 0
      · subst hg0
        rw [digs_zero]
        have HE := Lib.hid (show acc = Lib.decDigits m by have := HD.out; simpa [decN] using this)
        have g1 := cell_of_row wr _ 0 _ _ _ (cells_of R2.out HB.out)
        simp only [List.getElem?_toArray, List.getElem?_cons_zero] at g1
        have zg := heap_lt (cells_of R2.out HB.out)
        have hc45 := cons_str 45 acc
        have KZ := Lib.hid (K2.out.trans (HB.out.mono K2.out.size))
        cases ng
        · have E0 := Lib.hid (show ¬ x < 0 from of_decide_eq_false HNG.out)
          go_wp2
          go_ret
          exact ⟨by rw [ETZ.out, if_neg (by have := E0.out; omega), HE.out]; rfl, KZ.out⟩
        · have E0 := Lib.hid (show x < 0 from of_decide_eq_true HNG.out)
          go_wp2
          go_ret
          exact ⟨by rw [ETZ.out, if_pos E0.out, HE.out]; rfl, KZ.out⟩
      · have t0 : 0 < (digs gk).length := by
          rcases Nat.eq_zero_or_pos (digs gk).length with h1 | h1
          · exact absurd (digs_nil.1 h1) hg0
          · exact h1
        have HDM := rdivmod_any A' (some ⟨wr.heap.size, 0, none⟩) c' 1 (digs gk) [10] (wr.alloc (.cells #[.int .u32 10] 75)) (HG.out.below (below1 _ _)) (Live.get (A := some ⟨wr.heap.size, 0, none⟩) (c := 1) (xs := [10]) ((live_start wr).new1 10 10 rfl (by omega)) (by simp)) (by have := HL.out; omega) (by simp) (by simp [val])
        rw [val_digs, show val [10] = 10 by simp [val]] at HDM
        have HT := Lib.hid (dec_ten (y := gk) hg0)
        have HQG := Lib.hid (show gk / 10 < gk by omega)
        have HQL := Lib.hid (Nat.le_trans (digs_len_mono _ _ (Nat.div_le_self gk 10)) HL.out)
        have hr9 : gk % 10 < 10 := Nat.mod_lt _ (by omega)
        generalize gk / 10 = q at *
        generalize gk % 10 = r at *
        have HDM' := Lib.hid HDM
        have SM := Lib.hid (fun (A1 : Option Addr) (c1 : Nat) (V : World) (h1 : Dg V A1 c1 (digs r)) => rsmall_any A1 c1 (digs r) V h1 (Nat.le_trans (digs_small (n := r) (by omega)) (by omega)))
        simp only [val_digs] at SM
        have hs : small? r = r := by unfold small?; rw [if_pos (by omega)]
        have hdd : decide (r < 18446744073709551616) = true := decide_eq_true (by omega)
        rw [hs, hdd] at SM
        have HR := Lib.hid hr9
        clear HDM hs hdd hg0
        go_wp2_with fail
        refine HDM'.out.mono ?_
        rintro e w3 ⟨A3, c3, B3, d3, rfl, hd, hd3, hb⟩
        have K3 := Lib.hid ((below1 _ _).trans (hb.mono (by simp)))
        have Q3 := Lib.hid hd
        have G3 := Lib.hid hd3
        clear hb hd hd3
        go_wp2_with fail
        refine (SM.out B3 d3 _ G3.out).mono ?_
        rintro e w4 ⟨rfl, hb⟩
        have K4 := Lib.hid (K3.out.trans (hb.mono K3.out.size))
        have Q4 := Lib.hid (Q3.out.below hb)
        clear hb
        have hcv := cv1 (w := w4) r HR.out
        have hcc := cons_str (UInt8.ofNat (48 + r)) acc
        have hu1 : IntKind.u64.wrap (48 + (r : Int)) = 48 + (r : Int) := IntWalk.u64_in _ ⟨by omega, by omega⟩
        have hu2 : IntKind.u8.wrap (48 + (r : Int)) = 48 + (r : Int) := by rw [IntKind.wrap_u8]; omega
        have hu3 : (48 + (r : Int)) % 256 = 48 + (r : Int) := by omega
        go_wp2
        go_roundg q
        case measure => exact HQG.out
        case rel => exact ⟨A3, c3, UInt8.ofNat (48 + r) :: acc, rfl, by rw [UInt8.ofNat_add]; exact congrArg Value.string (cons_str _ _), Lib.hid (Q4.out.below (below1 _ _)), Lib.hid (by have h1 := HT.out; have h2 := HD.out; rw [← h1, List.append_assoc] at h2; exact h2), Lib.hid (HB.out.trans ((K4.out.trans ((below1 _ _).mono K4.out.size)).mono HB.out.size)), HQL⟩
end Go.Proofs.YthgkdpfkaobgoaaDoor
end

section
/-
  astrolaberef04.Take.
-/
namespace Go.Proofs.YthgkdpfkaobgoaaDoor
open Go.RowKit
theorem byte_mod {a b : Nat} (h : a % 256 = b % 256) : UInt8.ofNat a = UInt8.ofNat b := by
  apply UInt8.toNat_inj.1
  simpa using h
theorem lay4_rdn (l : List UInt8) : ∀ n, 4 * n + 2 ≤ l.length → lay4 (rdn l n) = (l.drop 2).take (4 * n)
  | 0, _ => by simp [rdn, lay4]
  | n + 1, h => by
    have ih := lay4_rdn l n (by omega)
    have e : rdn l (n + 1) = rdn l n ++ [u4 l (2 + 4 * n)] := rfl
    have e2 : lay4 (rdn l (n + 1)) = lay4 (rdn l n) ++ d4 (u4 l (2 + 4 * n)) := by rw [e]; unfold lay4; simp
    have hb : ∀ j, j < 4 → (l.drop 2)[4 * n + j]? = some (UInt8.ofNat (Bt l (2 + 4 * n + j))) := by
      intro j hj
      rw [List.getElem?_drop]
      have hlt : 2 + (4 * n + j) < l.length := by omega
      have e3 : 2 + 4 * n + j = 2 + (4 * n + j) := by omega
      rw [List.getElem?_eq_getElem hlt, e3]
      unfold Bt
      rw [List.getElem?_eq_getElem hlt]
      simp
    have b0 := bt_lt l (2 + 4 * n)
    have b1 := bt_lt l (2 + 4 * n + 1)
    have b2 := bt_lt l (2 + 4 * n + 2)
    have b3 := bt_lt l (2 + 4 * n + 3)
    have ed : d4 (u4 l (2 + 4 * n)) = [UInt8.ofNat (Bt l (2 + 4 * n)), UInt8.ofNat (Bt l (2 + 4 * n + 1)), UInt8.ofNat (Bt l (2 + 4 * n + 2)), UInt8.ofNat (Bt l (2 + 4 * n + 3))] := by
      unfold d4 u4
      generalize Bt l (2 + 4 * n) = a0 at *
      generalize Bt l (2 + 4 * n + 1) = a1 at *
      generalize Bt l (2 + 4 * n + 2) = a2 at *
      generalize Bt l (2 + 4 * n + 3) = a3 at *
      rw [byte_mod (show (a0 + 256 * a1 + 65536 * a2 + 16777216 * a3) % 256 = a0 % 256 by omega), byte_mod (show (a0 + 256 * a1 + 65536 * a2 + 16777216 * a3) / 256 % 256 = a1 % 256 by omega), byte_mod (show (a0 + 256 * a1 + 65536 * a2 + 16777216 * a3) / 65536 % 256 = a2 % 256 by omega), byte_mod (show (a0 + 256 * a1 + 65536 * a2 + 16777216 * a3) / 16777216 % 256 = a3 % 256 by omega)]
    rw [e2, ih, ed]
    apply List.ext_getElem?
    intro j
    rcases Nat.lt_or_ge j (4 * n) with hj | hj
    · rw [List.getElem?_append_left (by simp; omega), List.getElem?_take, List.getElem?_take, if_pos hj, if_pos (by omega)]
    · rw [List.getElem?_append_right (by simp; omega), List.getElem?_take]
      have el : (List.take (4 * n) (List.drop 2 l)).length = 4 * n := by simp; omega
      rw [el]
      rcases Nat.lt_or_ge j (4 * n + 4) with hj4 | hj4
      · rw [if_pos (by omega)]
        obtain ⟨i, rfl, hi⟩ : ∃ i, j = 4 * n + i ∧ i < 4 := ⟨j - 4 * n, by omega, by omega⟩
        rw [hb i hi, Nat.add_sub_cancel_left]
        have h4 : i = 0 ∨ i = 1 ∨ i = 2 ∨ i = 3 := by omega
        rcases h4 with rfl | rfl | rfl | rfl <;> rfl
      · rw [if_neg (by omega), List.getElem?_eq_none (by simp; omega)]
theorem zb_take {l : List UInt8} {n : Nat} {neg : Bool} (hn : hd2 l / 2 = n) (hneg : decide (hd2 l % 2 = 1) = neg) (h : 4 * n + 2 ≤ l.length) : zbytes neg (rdn l n) = l.take (2 + 4 * n) := by
  have hl := lay4_rdn l n h
  have hh : headN neg (rdn l n).length = hd2 l := by
    rw [rdn_len, ← hn, ← hneg]
    unfold headN
    by_cases h1 : hd2 l % 2 = 1
    · rw [decide_eq_true h1]; simp; omega
    · rw [decide_eq_false h1]; simp; omega
  unfold zbytes
  rw [hh, hl]
  rcases l with _ | ⟨a, _ | ⟨b, r⟩⟩
  · simp at h
  · simp at h
  · have ha : Bt (a :: b :: r) 0 = a.toNat := rfl
    have hb : Bt (a :: b :: r) 1 = b.toNat := rfl
    have la := UInt8.toNat_lt a
    have lb := UInt8.toNat_lt b
    have e1 : UInt8.ofNat (hd2 (a :: b :: r) / 256) = a := by
      apply UInt8.toNat_inj.1
      unfold hd2
      rw [ha, hb]
      simp <;> omega
    have e2 : UInt8.ofNat (hd2 (a :: b :: r)) = b := by
      apply UInt8.toNat_inj.1
      unfold hd2
      rw [ha, hb]
      simp <;> omega
    rw [e1, e2, show 2 + 4 * n = 4 * n + 1 + 1 by omega]
    simp [List.take_succ_cons]
theorem ext_take (s : ByteArray) (n : Nat) : s.extract 0 n = ⟨(s.data.toList.take n).toArray⟩ := by
  apply ByteArray.ext
  apply Array.toList_inj.1
  rw [Lib.extract_data]
  simp
theorem ix_run (s : ByteArray) (i : Int) (k c : Nat) (hi : i = (k : Int)) (h : k < s.size) (hc : Bt s.data.toList k = c) (x : World) : (Instr.index 9 (.string s) (.int .i64 i)).run Tryd.prog x = .ok (.int .u8 (c : Int)) x := by
  subst hi hc
  rw [run_index_string x 9 s .i64 (k : Int) Tryd.underlying9, dif_pos ⟨by omega, by omega⟩]
  simp only [Int.toNat_natCast, bt_get]
theorem box_neg2 (w : World) (k : Nat) (neg : Bool) : ((((w.alloc (.cells #[.bool false, .slice none 0 0] 24)).alloc (.cells #[.bool neg, .slice none 0 0] 24)).drewN k).heap[w.heap.size + 1]? = some (.cells #[.bool neg, .slice none 0 0] 24 (0, 0))) ∧
    Below w.heap.size w (((w.alloc (.cells #[.bool false, .slice none 0 0] 24)).alloc (.cells #[.bool neg, .slice none 0 0] 24)).drewN k) ∧
    (((w.alloc (.cells #[.bool false, .slice none 0 0] 24)).alloc (.cells #[.bool neg, .slice none 0 0] 24)).drewN k).heap[w.heap.size]? = some (.cells #[.bool false, .slice none 0 0] 24 (0, 0)) :=
  ⟨heap_alloc2_new w _ _, below_drewN (below2 w _ _) k, heap_alloc2_old w _ _⟩
theorem wraps {p : Nat} (h : p ≤ 200000) : (wrap64 ((p : Int) + 1) = (p : Int) + 1 ∧ IntKind.i64.wrap ((p : Int) + 1) = (p : Int) + 1) ∧ (wrap64 ((p : Int) + 2) = (p : Int) + 2 ∧ IntKind.i64.wrap ((p : Int) + 2) = (p : Int) + 2) ∧ (wrap64 ((p : Int) + 3) = (p : Int) + 3 ∧ IntKind.i64.wrap ((p : Int) + 3) = (p : Int) + 3) :=
  ⟨⟨IntWalk.wrap64_in _ ⟨by omega, by omega⟩, IntWalk.i64_in _ ⟨by omega, by omega⟩⟩, ⟨IntWalk.wrap64_in _ ⟨by omega, by omega⟩, IntWalk.i64_in _ ⟨by omega, by omega⟩⟩, ⟨IntWalk.wrap64_in _ ⟨by omega, by omega⟩, IntWalk.i64_in _ ⟨by omega, by omega⟩⟩⟩
theorem wrap_p4 {p : Nat} (h : p ≤ 200000) : wrap64 ((p : Int) + 4) = (p : Int) + 4 ∧ IntKind.i64.wrap ((p : Int) + 4) = (p : Int) + 4 := ⟨IntWalk.wrap64_in _ ⟨by omega, by omega⟩, IntWalk.i64_in _ ⟨by omega, by omega⟩⟩
theorem size_facts {n sz : Nat} (h : n ≤ 32767) (hs : 2 + 4 * n = sz) : wrap64 (4 * (n : Int)) = 4 * (n : Int) ∧ wrap64 (2 + 4 * (n : Int)) = (sz : Int) ∧ 2 + 4 * (n : Int) = (sz : Int) :=
  ⟨IntWalk.wrap64_in _ ⟨by omega, by omega⟩, by rw [IntWalk.wrap64_in _ ⟨by omega, by omega⟩]; omega, by omega⟩
set_option maxHeartbeats 8000000 in
set_option maxRecDepth 100000 in
theorem rztake_go (s : ByteArray) (w : World) (l : List UInt8) (hl : s.data.toList = l) (h2 : 2 ≤ l.length) (n : Nat) (hn : hd2 l / 2 = n) (h5 : 4 * n + 2 ≤ l.length) (hmax : l.length ≤ 9223372036854775807) (neg : Bool) (hneg : decide (hd2 l % 2 = 1) = neg) (q : Bool) (hq : (decide (n ≤ 400) && rightB neg (rdn l n)) = q) :
    Calls Tryd.prog 40 #[.string s] w fun e w' => Below w.heap.size w w' ∧ (q = false → e = .returned (.tuple #[.agg #[.bool false, .slice none 0 0], .string ⟨#[]⟩, .bool false])) ∧
      (q = true → ∃ A c, e = .returned (.tuple #[.agg #[.bool neg, .slice A n c], .string ⟨(l.drop (2 + 4 * n)).toArray⟩, .bool true]) ∧ Dg w' A c (rdn l n)) := by
  have hs : s.size = l.length := by rw [← hl]; simp
  have d0 : decide ((s.size : Int) < 2) = false := decide_eq_false (by omega)
  have n0 : 0 < s.size := by omega
  have n1 : 1 < s.size := by omega
  have e0 : (0 : Int) < (s.size : Int) := by omega
  have e1 : (1 : Int) < (s.size : Int) := by omega
  obtain ⟨b0, hb0⟩ : ∃ b0 : Nat, (s[0]'n0).toNat = b0 := ⟨_, rfl⟩
  obtain ⟨b1, hb1⟩ : ∃ b1 : Nat, (s[1]'n1).toNat = b1 := ⟨_, rfl⟩
  have l0 : b0 < 256 := by rw [← hb0]; exact UInt8.toNat_lt _
  have l1 : b1 < 256 := by rw [← hb1]; exact UInt8.toNat_lt _
  have hH : b0 * 256 + b1 = hd2 l := by unfold hd2; rw [← hl, ← bt_get s 0 n0, ← bt_get s 1 n1, hb0, hb1]
  have ZB := Lib.hid (zb_take hn hneg h5)
  obtain ⟨h, hh⟩ : ∃ h : Nat, hd2 l = h := ⟨_, rfl⟩
  rw [hh] at hH hn hneg
  have hnb : n ≤ 32767 := by omega
  have HNB := Lib.hid hnb
  have HF := Lib.hid (head_facts l0 l1 hH hn hneg)
  obtain ⟨sz, hsz⟩ : ∃ sz, 2 + 4 * n = sz := ⟨_, rfl⟩
  have HSZ := Lib.hid hsz
  have SF := Lib.hid (size_facts hnb hsz)
  have d5 : decide ((s.size : Int) < (sz : Int)) = false := decide_eq_false (by omega)
  have d5n : decide (s.size < sz) = false := decide_eq_false (by omega)
  have HS := Lib.hid hs
  have HLL := Lib.hid hl
  have HQ := Lib.hid hq
  have HL := Lib.hid (And.intro h5 hmax)
  obtain ⟨i0, hi, hz0, hz1, hz2⟩ := info_parts elem_info
  have hss : sz ≤ s.size := by omega
  have HSS := Lib.hid hss
  clear hs hH hh hn hneg h2 h5 hmax hl hnb hsz hq hss
  go_enter Tryd.func40, Tryd.ntmps40
  have hO := HF.out.1
  go_wp2_with fail
  go_quiet (fail)
  clear hO
  have hQ2 := HF.out.2.2.1
  have hR3 := HF.out.2.2.2.2
  have hS1 := SF.out.1
  have hS2 := SF.out.2.1
  go_upto_region 9 with fail
  rw [hS2]
  clear hQ2 hR3 hS1 hS2
  go_loopw [8] (fun i wr => ∃ (k p : Nat) (v : Value), k ≤ n ∧ Hid (p = 2 + 4 * k) ∧ i = .int .i64 p ∧ Hid (wr.heap[w.heap.size + 1]? = some (.cells #[.bool neg, v] 24 (0, 0))) ∧ Hid (wr.ownsRow (w.heap.size + 1 + 1) 75 1 v k (cells (rdn l k))) ∧ Hid (Below w.heap.size w wr) ∧ Hid (wr.heap[w.heap.size]? = some (.cells #[.bool false, .slice none 0 0] 24 (0, 0)))) (fun i _ => sz + 1 - (intOf i).toNat)
  case atStart => exact ⟨0, 2, .slice none 0 0, Nat.zero_le _, rfl, rfl, Lib.hid (box_neg2 w _ neg).1, Lib.hid (World.ownsRow_nil _ _ _ _), Lib.hid (box_neg2 w _ neg).2.1, Lib.hid (box_neg2 w _ neg).2.2⟩
  case round =>
    obtain ⟨k, p, v, hk, HP, rfl, HC, HO, HB, HZ⟩ := hrel
    by_cases hlt : k < n
    · have hp := HP.out
      have hnb := HNB.out
      have hsz := HSZ.out
      have hss := HSS.out
      have dlt : decide ((p : Int) < (sz : Int)) = true := decide_eq_true (by omega)
      have dltn : decide (p < sz) = true := decide_eq_true (by omega)
      have WW := Lib.hid (wraps (show p ≤ 200000 by omega))
      have W4 := Lib.hid (wrap_p4 (show p ≤ 200000 by omega))
      obtain ⟨c0, hc0⟩ : ∃ c, Bt l p = c := ⟨_, rfl⟩
      obtain ⟨c1, hc1⟩ : ∃ c, Bt l (p + 1) = c := ⟨_, rfl⟩
      obtain ⟨c2, hc2⟩ : ∃ c, Bt l (p + 2) = c := ⟨_, rfl⟩
      obtain ⟨c3, hc3⟩ : ∃ c, Bt l (p + 3) = c := ⟨_, rfl⟩
      have m0 : c0 < 256 := by rw [← hc0]; exact bt_lt _ _
      have m1 : c1 < 256 := by rw [← hc1]; exact bt_lt _ _
      have m2 : c2 < 256 := by rw [← hc2]; exact bt_lt _ _
      have m3 : c3 < 256 := by rw [← hc3]; exact bt_lt _ _
      have OO := Lib.hid (or3 m0 m1 m2 m3)
      have II := Lib.hid (And.intro (ix_run s (p : Int) p c0 rfl (by omega) (by rw [HLL.out]; exact hc0)) (And.intro (ix_run s ((p : Int) + 1) (p + 1) c1 (by omega) (by omega) (by rw [HLL.out]; exact hc1)) (And.intro (ix_run s ((p : Int) + 2) (p + 2) c2 (by omega) (by omega) (by rw [HLL.out]; exact hc2)) (ix_run s ((p : Int) + 3) (p + 3) c3 (by omega) (by omega) (by rw [HLL.out]; exact hc3)))))
      have RD := Lib.hid (show cells (rdn l (k + 1)) = cells (rdn l k) ++ [.int .u32 ((c0 + 256 * c1 + 65536 * c2 + 16777216 * c3 : Nat) : Int)] by
        have e : u4 l (2 + 4 * k) = c0 + 256 * c1 + 65536 * c2 + 16777216 * c3 := by
          unfold u4; rw [← hp, hc0, hc1, hc2, hc3]
        show cells (rdn l k ++ [u4 l (2 + 4 * k)]) = _
        rw [cells_snoc, e])
      generalize c0 + 256 * c1 + 65536 * c2 + 16777216 * c3 = X at *
      generalize c0 + 256 * c1 + 65536 * c2 = o2 at *
      generalize c0 + 256 * c1 = o1 at *
      have kb : k ≤ 32767 := by omega
      clear hp hsz hc0 hc1 hc2 hc3 hss
      go_upto_region 11 with fail
      refine wp_operands (W := wr) rfl 28 [41, 42, 43, 44, 45, 46, 47, 48, 49, 50, 51, 52, 53, 54, 55, 56, 57, 58, 59, 60, 61, 62, 63, 64, 65, 66, 67, 68] (fun i u x => match i with | 0 => u = .pointer (some ⟨w.heap.size + 1, 1, none⟩) | 1 => u = v | 2 => u = .string s | 3 => u = .int .i64 (p : Int) | 4 => u = .int .u8 (c0 : Int) | 5 => u = .int .u32 (c0 : Int) | 6 => u = .string s | 7 => u = .int .i64 (p : Int) | 8 => u = .int .i64 ((p : Int) + 1) | 9 => u = .int .u8 (c1 : Int) | 10 => u = .int .u32 (c1 : Int) | 11 => u = .int .u32 ((c1 : Int) * 256) | 12 => u = .int .u32 (o1 : Int) | 13 => u = .string s | 14 => u = .int .i64 (p : Int) | 15 => u = .int .i64 ((p : Int) + 2) | 16 => u = .int .u8 (c2 : Int) | 17 => u = .int .u32 (c2 : Int) | 18 => u = .int .u32 ((c2 : Int) * 65536) | 19 => u = .int .u32 (o2 : Int) | 20 => u = .string s | 21 => u = .int .i64 (p : Int) | 22 => u = .int .i64 ((p : Int) + 3) | 23 => u = .int .u8 (c3 : Int) | 24 => u = .int .u32 (c3 : Int) | 25 => u = .int .u32 ((c3 : Int) * 16777216) | 26 => u = .int .u32 (X : Int) | 27 => ∃ g, u = .slice (some ⟨g, 0, none⟩) 1 1 ∧ x.heap[g]? = some (.cells #[.int .u32 (X : Int)] 75 (0, 0)) | _ => True) (fun _ => false)
        (by decide) rfl (by kernel_rfl) (by kernel_rfl) (by decide) (by kernel_rfl) ?_ (fun _ _ _ h => by cases h) ?_ ?_
      · intro i u x x' hi hR hb'
        have hi' : i = 0 ∨ i = 1 ∨ i = 2 ∨ i = 3 ∨ i = 4 ∨ i = 5 ∨ i = 6 ∨ i = 7 ∨ i = 8 ∨ i = 9 ∨ i = 10 ∨ i = 11 ∨ i = 12 ∨ i = 13 ∨ i = 14 ∨ i = 15 ∨ i = 16 ∨ i = 17 ∨ i = 18 ∨ i = 19 ∨ i = 20 ∨ i = 21 ∨ i = 22 ∨ i = 23 ∨ i = 24 ∨ i = 25 ∨ i = 26 ∨ i = 27 := by omega
        rcases hi' with rfl | rfl | rfl | rfl | rfl | rfl | rfl | rfl | rfl | rfl | rfl | rfl | rfl | rfl | rfl | rfl | rfl | rfl | rfl | rfl | rfl | rfl | rfl | rfl | rfl | rfl | rfl | rfl
        · exact hR
        · exact hR
        · exact hR
        · exact hR
        · exact hR
        · exact hR
        · exact hR
        · exact hR
        · exact hR
        · exact hR
        · exact hR
        · exact hR
        · exact hR
        · exact hR
        · exact hR
        · exact hR
        · exact hR
        · exact hR
        · exact hR
        · exact hR
        · exact hR
        · exact hR
        · exact hR
        · exact hR
        · exact hR
        · exact hR
        · exact hR
        · obtain ⟨g, e, hg⟩ := hR; exact ⟨g, e, (hb'.block g (heap_lt hg)).trans hg⟩
      · intro i a x K hi hF hb' hw hK
        have hi' : i = 0 ∨ i = 1 ∨ i = 2 ∨ i = 3 ∨ i = 4 ∨ i = 5 ∨ i = 6 ∨ i = 7 ∨ i = 8 ∨ i = 9 ∨ i = 10 ∨ i = 11 ∨ i = 12 ∨ i = 13 ∨ i = 14 ∨ i = 15 ∨ i = 16 ∨ i = 17 ∨ i = 18 ∨ i = 19 ∨ i = 20 ∨ i = 21 ∨ i = 22 ∨ i = 23 ∨ i = 24 ∨ i = 25 ∨ i = 26 ∨ i = 27 := by omega
        rcases hi' with rfl | rfl | rfl | rfl | rfl | rfl | rfl | rfl | rfl | rfl | rfl | rfl | rfl | rfl | rfl | rfl | rfl | rfl | rfl | rfl | rfl | rfl | rfl | rfl | rfl | rfl | rfl | rfl
        · simp only [wpOp, List.getElem?_toArray, List.getElem?_cons_zero, Region.wanted, if_true]
          refine Or.inl ?_
          have e0 : a.eval (.tmp 7) = .pointer (some ⟨w.heap.size + 1, 0, none⟩) := hF.2.2 7 (by decide)
          clear hw hF
          simp only [Oper.wp, execOp]
          rw [e0]
          go_simp
          exact hK _ x (by first | rfl | exact u32_v (by omega) (by omega) | (rw [O]; done) | (rw [hw1]; done)) (Below.refl _ _) (fun h => by cases h)
        · simp only [wpOp, List.getElem?_toArray, List.getElem?_cons_succ, List.getElem?_cons_zero, Region.wanted, if_true]
          refine Or.inl ?_
          have e0 : a.tmps.getD 41 undef = .pointer (some ⟨w.heap.size + 1, 1, none⟩) := hw 0 (by kernel_rfl)
          have f := row_cell HC.out hb' 1
          simp only [List.getElem?_toArray, List.getElem?_cons_succ, List.getElem?_cons_zero] at f
          clear hw hF
          simp only [Oper.wp, execOp]
          go_simp
          exact hK _ x (by first | rfl | exact u32_v (by omega) (by omega) | (rw [O]; done) | (rw [hw1]; done)) (Below.refl _ _) (fun h => by cases h)
        · simp only [wpOp, List.getElem?_toArray, List.getElem?_cons_succ, List.getElem?_cons_zero, Region.wanted, if_true]
          refine Or.inl ?_
          have e0 : a.eval (.tmp 0) = .string s := hF.2.2 0 (by decide)
          clear hw hF
          simp only [Oper.wp, execOp]
          rw [e0]
          go_simp
          exact hK _ x (by first | rfl | exact u32_v (by omega) (by omega) | (rw [O]; done) | (rw [hw1]; done)) (Below.refl _ _) (fun h => by cases h)
        · simp only [wpOp, List.getElem?_toArray, List.getElem?_cons_succ, List.getElem?_cons_zero, Region.wanted, if_true]
          refine Or.inl ?_
          have e0 : a.eval (.tmp 8) = .int .i64 (p : Int) := hF.2.2 8 (by decide)
          clear hw hF
          simp only [Oper.wp, execOp]
          rw [e0]
          go_simp
          exact hK _ x (by first | rfl | exact u32_v (by omega) (by omega) | (rw [O]; done) | (rw [hw1]; done)) (Below.refl _ _) (fun h => by cases h)
        · simp only [wpOp, List.getElem?_toArray, List.getElem?_cons_succ, List.getElem?_cons_zero, Region.wanted, if_true]
          refine Or.inl ?_
          have e0 : a.tmps.getD 43 undef = .string s := hw 2 (by kernel_rfl)
          have e1 : a.tmps.getD 44 undef = .int .i64 (p : Int) := hw 3 (by kernel_rfl)
          have hix := II.out.1 x
          clear hw hF
          simp only [Oper.wp, execOp]
          go_simp
          exact hK _ x (by first | rfl | exact u32_v (by omega) (by omega) | (rw [O]; done) | (rw [hw1]; done)) (Below.refl _ _) (fun h => by cases h)
        · simp only [wpOp, List.getElem?_toArray, List.getElem?_cons_succ, List.getElem?_cons_zero, Region.wanted, if_true]
          refine Or.inl ?_
          have e0 : a.tmps.getD 45 undef = .int .u8 (c0 : Int) := hw 4 (by kernel_rfl)
          clear hw hF
          simp only [Oper.wp, execOp]
          go_simp
          exact hK _ x (by first | rfl | exact u32_v (by omega) (by omega) | (rw [O]; done) | (rw [hw1]; done)) (Below.refl _ _) (fun h => by cases h)
        · simp only [wpOp, List.getElem?_toArray, List.getElem?_cons_succ, List.getElem?_cons_zero, Region.wanted, if_true]
          refine Or.inl ?_
          have e0 : a.eval (.tmp 0) = .string s := hF.2.2 0 (by decide)
          clear hw hF
          simp only [Oper.wp, execOp]
          rw [e0]
          go_simp
          exact hK _ x (by first | rfl | exact u32_v (by omega) (by omega) | (rw [O]; done) | (rw [hw1]; done)) (Below.refl _ _) (fun h => by cases h)
        · simp only [wpOp, List.getElem?_toArray, List.getElem?_cons_succ, List.getElem?_cons_zero, Region.wanted, if_true]
          refine Or.inl ?_
          have e0 : a.eval (.tmp 8) = .int .i64 (p : Int) := hF.2.2 8 (by decide)
          clear hw hF
          simp only [Oper.wp, execOp]
          rw [e0]
          go_simp
          exact hK _ x (by first | rfl | exact u32_v (by omega) (by omega) | (rw [O]; done) | (rw [hw1]; done)) (Below.refl _ _) (fun h => by cases h)
        · simp only [wpOp, List.getElem?_toArray, List.getElem?_cons_succ, List.getElem?_cons_zero, Region.wanted, if_true]
          refine Or.inl ?_
          have e0 : a.tmps.getD 48 undef = .int .i64 (p : Int) := hw 7 (by kernel_rfl)
          obtain ⟨hw1, hw2⟩ := WW.out.1
          clear hw hF
          simp only [Oper.wp, execOp]
          go_simp
          exact hK _ x (by first | rfl | exact u32_v (by omega) (by omega) | (rw [O]; done) | (rw [hw1]; done)) (Below.refl _ _) (fun h => by cases h)
        · simp only [wpOp, List.getElem?_toArray, List.getElem?_cons_succ, List.getElem?_cons_zero, Region.wanted, if_true]
          refine Or.inl ?_
          have e0 : a.tmps.getD 47 undef = .string s := hw 6 (by kernel_rfl)
          have e1 : a.tmps.getD 49 undef = .int .i64 ((p : Int) + 1) := hw 8 (by kernel_rfl)
          have hix := II.out.2.1 x
          clear hw hF
          simp only [Oper.wp, execOp]
          go_simp
          exact hK _ x (by first | rfl | exact u32_v (by omega) (by omega) | (rw [O]; done) | (rw [hw1]; done)) (Below.refl _ _) (fun h => by cases h)
        · simp only [wpOp, List.getElem?_toArray, List.getElem?_cons_succ, List.getElem?_cons_zero, Region.wanted, if_true]
          refine Or.inl ?_
          have e0 : a.tmps.getD 50 undef = .int .u8 (c1 : Int) := hw 9 (by kernel_rfl)
          clear hw hF
          simp only [Oper.wp, execOp]
          go_simp
          exact hK _ x (by first | rfl | exact u32_v (by omega) (by omega) | (rw [O]; done) | (rw [hw1]; done)) (Below.refl _ _) (fun h => by cases h)
        · simp only [wpOp, List.getElem?_toArray, List.getElem?_cons_succ, List.getElem?_cons_zero, Region.wanted, if_true]
          refine Or.inl ?_
          have e0 : a.tmps.getD 51 undef = .int .u32 (c1 : Int) := hw 10 (by kernel_rfl)
          clear hw hF
          simp only [Oper.wp, execOp]
          go_simp
          exact hK _ x (by first | rfl | exact u32_v (by omega) (by omega) | (rw [O]; done) | (rw [hw1]; done)) (Below.refl _ _) (fun h => by cases h)
        · simp only [wpOp, List.getElem?_toArray, List.getElem?_cons_succ, List.getElem?_cons_zero, Region.wanted, if_true]
          refine Or.inl ?_
          have e0 : a.tmps.getD 46 undef = .int .u32 (c0 : Int) := hw 5 (by kernel_rfl)
          have e1 : a.tmps.getD 52 undef = .int .u32 ((c1 : Int) * 256) := hw 11 (by kernel_rfl)
          have O := OO.out.1
          clear hw hF
          simp only [Oper.wp, execOp]
          go_simp
          exact hK _ x (by first | rfl | exact u32_v (by omega) (by omega) | (rw [O]; done) | (rw [hw1]; done)) (Below.refl _ _) (fun h => by cases h)
        · simp only [wpOp, List.getElem?_toArray, List.getElem?_cons_succ, List.getElem?_cons_zero, Region.wanted, if_true]
          refine Or.inl ?_
          have e0 : a.eval (.tmp 0) = .string s := hF.2.2 0 (by decide)
          clear hw hF
          simp only [Oper.wp, execOp]
          rw [e0]
          go_simp
          exact hK _ x (by first | rfl | exact u32_v (by omega) (by omega) | (rw [O]; done) | (rw [hw1]; done)) (Below.refl _ _) (fun h => by cases h)
        · simp only [wpOp, List.getElem?_toArray, List.getElem?_cons_succ, List.getElem?_cons_zero, Region.wanted, if_true]
          refine Or.inl ?_
          have e0 : a.eval (.tmp 8) = .int .i64 (p : Int) := hF.2.2 8 (by decide)
          clear hw hF
          simp only [Oper.wp, execOp]
          rw [e0]
          go_simp
          exact hK _ x (by first | rfl | exact u32_v (by omega) (by omega) | (rw [O]; done) | (rw [hw1]; done)) (Below.refl _ _) (fun h => by cases h)
        · simp only [wpOp, List.getElem?_toArray, List.getElem?_cons_succ, List.getElem?_cons_zero, Region.wanted, if_true]
          refine Or.inl ?_
          have e0 : a.tmps.getD 55 undef = .int .i64 (p : Int) := hw 14 (by kernel_rfl)
          obtain ⟨hw1, hw2⟩ := WW.out.2.1
          clear hw hF
          simp only [Oper.wp, execOp]
          go_simp
          exact hK _ x (by first | rfl | exact u32_v (by omega) (by omega) | (rw [O]; done) | (rw [hw1]; done)) (Below.refl _ _) (fun h => by cases h)
        · simp only [wpOp, List.getElem?_toArray, List.getElem?_cons_succ, List.getElem?_cons_zero, Region.wanted, if_true]
          refine Or.inl ?_
          have e0 : a.tmps.getD 54 undef = .string s := hw 13 (by kernel_rfl)
          have e1 : a.tmps.getD 56 undef = .int .i64 ((p : Int) + 2) := hw 15 (by kernel_rfl)
          have hix := II.out.2.2.1 x
          clear hw hF
          simp only [Oper.wp, execOp]
          go_simp
          exact hK _ x (by first | rfl | exact u32_v (by omega) (by omega) | (rw [O]; done) | (rw [hw1]; done)) (Below.refl _ _) (fun h => by cases h)
        · simp only [wpOp, List.getElem?_toArray, List.getElem?_cons_succ, List.getElem?_cons_zero, Region.wanted, if_true]
          refine Or.inl ?_
          have e0 : a.tmps.getD 57 undef = .int .u8 (c2 : Int) := hw 16 (by kernel_rfl)
          clear hw hF
          simp only [Oper.wp, execOp]
          go_simp
          exact hK _ x (by first | rfl | exact u32_v (by omega) (by omega) | (rw [O]; done) | (rw [hw1]; done)) (Below.refl _ _) (fun h => by cases h)
        · simp only [wpOp, List.getElem?_toArray, List.getElem?_cons_succ, List.getElem?_cons_zero, Region.wanted, if_true]
          refine Or.inl ?_
          have e0 : a.tmps.getD 58 undef = .int .u32 (c2 : Int) := hw 17 (by kernel_rfl)
          clear hw hF
          simp only [Oper.wp, execOp]
          go_simp
          exact hK _ x (by first | rfl | exact u32_v (by omega) (by omega) | (rw [O]; done) | (rw [hw1]; done)) (Below.refl _ _) (fun h => by cases h)
        · simp only [wpOp, List.getElem?_toArray, List.getElem?_cons_succ, List.getElem?_cons_zero, Region.wanted, if_true]
          refine Or.inl ?_
          have e0 : a.tmps.getD 53 undef = .int .u32 (o1 : Int) := hw 12 (by kernel_rfl)
          have e1 : a.tmps.getD 59 undef = .int .u32 ((c2 : Int) * 65536) := hw 18 (by kernel_rfl)
          have O := OO.out.2.1
          clear hw hF
          simp only [Oper.wp, execOp]
          go_simp
          exact hK _ x (by first | rfl | exact u32_v (by omega) (by omega) | (rw [O]; done) | (rw [hw1]; done)) (Below.refl _ _) (fun h => by cases h)
        · simp only [wpOp, List.getElem?_toArray, List.getElem?_cons_succ, List.getElem?_cons_zero, Region.wanted, if_true]
          refine Or.inl ?_
          have e0 : a.eval (.tmp 0) = .string s := hF.2.2 0 (by decide)
          clear hw hF
          simp only [Oper.wp, execOp]
          rw [e0]
          go_simp
          exact hK _ x (by first | rfl | exact u32_v (by omega) (by omega) | (rw [O]; done) | (rw [hw1]; done)) (Below.refl _ _) (fun h => by cases h)
        · simp only [wpOp, List.getElem?_toArray, List.getElem?_cons_succ, List.getElem?_cons_zero, Region.wanted, if_true]
          refine Or.inl ?_
          have e0 : a.eval (.tmp 8) = .int .i64 (p : Int) := hF.2.2 8 (by decide)
          clear hw hF
          simp only [Oper.wp, execOp]
          rw [e0]
          go_simp
          exact hK _ x (by first | rfl | exact u32_v (by omega) (by omega) | (rw [O]; done) | (rw [hw1]; done)) (Below.refl _ _) (fun h => by cases h)
        · simp only [wpOp, List.getElem?_toArray, List.getElem?_cons_succ, List.getElem?_cons_zero, Region.wanted, if_true]
          refine Or.inl ?_
          have e0 : a.tmps.getD 62 undef = .int .i64 (p : Int) := hw 21 (by kernel_rfl)
          obtain ⟨hw1, hw2⟩ := WW.out.2.2
          clear hw hF
          simp only [Oper.wp, execOp]
          go_simp
          exact hK _ x (by first | rfl | exact u32_v (by omega) (by omega) | (rw [O]; done) | (rw [hw1]; done)) (Below.refl _ _) (fun h => by cases h)
        · simp only [wpOp, List.getElem?_toArray, List.getElem?_cons_succ, List.getElem?_cons_zero, Region.wanted, if_true]
          refine Or.inl ?_
          have e0 : a.tmps.getD 61 undef = .string s := hw 20 (by kernel_rfl)
          have e1 : a.tmps.getD 63 undef = .int .i64 ((p : Int) + 3) := hw 22 (by kernel_rfl)
          have hix := II.out.2.2.2 x
          clear hw hF
          simp only [Oper.wp, execOp]
          go_simp
          exact hK _ x (by first | rfl | exact u32_v (by omega) (by omega) | (rw [O]; done) | (rw [hw1]; done)) (Below.refl _ _) (fun h => by cases h)
        · simp only [wpOp, List.getElem?_toArray, List.getElem?_cons_succ, List.getElem?_cons_zero, Region.wanted, if_true]
          refine Or.inl ?_
          have e0 : a.tmps.getD 64 undef = .int .u8 (c3 : Int) := hw 23 (by kernel_rfl)
          clear hw hF
          simp only [Oper.wp, execOp]
          go_simp
          exact hK _ x (by first | rfl | exact u32_v (by omega) (by omega) | (rw [O]; done) | (rw [hw1]; done)) (Below.refl _ _) (fun h => by cases h)
        · simp only [wpOp, List.getElem?_toArray, List.getElem?_cons_succ, List.getElem?_cons_zero, Region.wanted, if_true]
          refine Or.inl ?_
          have e0 : a.tmps.getD 65 undef = .int .u32 (c3 : Int) := hw 24 (by kernel_rfl)
          clear hw hF
          simp only [Oper.wp, execOp]
          go_simp
          exact hK _ x (by first | rfl | exact u32_v (by omega) (by omega) | (rw [O]; done) | (rw [hw1]; done)) (Below.refl _ _) (fun h => by cases h)
        · simp only [wpOp, List.getElem?_toArray, List.getElem?_cons_succ, List.getElem?_cons_zero, Region.wanted, if_true]
          refine Or.inl ?_
          have e0 : a.tmps.getD 60 undef = .int .u32 (o2 : Int) := hw 19 (by kernel_rfl)
          have e1 : a.tmps.getD 66 undef = .int .u32 ((c3 : Int) * 16777216) := hw 25 (by kernel_rfl)
          have O := OO.out.2.2
          clear hw hF
          simp only [Oper.wp, execOp]
          go_simp
          exact hK _ x (by first | rfl | exact u32_v (by omega) (by omega) | (rw [O]; done) | (rw [hw1]; done)) (Below.refl _ _) (fun h => by cases h)
        · simp only [wpOp, List.getElem?_toArray, List.getElem?_cons_succ, List.getElem?_cons_zero, Region.wanted, if_true]
          refine Or.inl ?_
          have e0 : a.tmps.getD 67 undef = .int .u32 (X : Int) := hw 26 (by kernel_rfl)
          have e1 : a.tmps[67]?.getD undef = .int .u32 (X : Int) := by simpa using e0
          clear e0
          clear hw hF
          simp only [Oper.wp, execOp]
          go_simp
          exact hK _ _ ⟨_, rfl, heap_alloc_new _ _⟩ (below1 _ _) (fun h => by cases h)
      · intro a x hF hb' hR _
        obtain ⟨gN, e27, hgN⟩ := hR 27 (by decide)
        have e0 : a.tmps.getD 41 undef = .pointer (some ⟨w.heap.size + 1, 1, none⟩) := hR 0 (by decide)
        have e1 : a.tmps.getD 42 undef = v := hR 1 (by decide)
        have e2 : a.tmps.getD 43 undef = .string s := hR 2 (by decide)
        have e3 : a.tmps.getD 44 undef = .int .i64 (p : Int) := hR 3 (by decide)
        have e4 : a.tmps.getD 45 undef = .int .u8 (c0 : Int) := hR 4 (by decide)
        have e5 : a.tmps.getD 46 undef = .int .u32 (c0 : Int) := hR 5 (by decide)
        have e6 : a.tmps.getD 47 undef = .string s := hR 6 (by decide)
        have e7 : a.tmps.getD 48 undef = .int .i64 (p : Int) := hR 7 (by decide)
        have e8 : a.tmps.getD 49 undef = .int .i64 ((p : Int) + 1) := hR 8 (by decide)
        have e9 : a.tmps.getD 50 undef = .int .u8 (c1 : Int) := hR 9 (by decide)
        have e10 : a.tmps.getD 51 undef = .int .u32 (c1 : Int) := hR 10 (by decide)
        have e11 : a.tmps.getD 52 undef = .int .u32 ((c1 : Int) * 256) := hR 11 (by decide)
        have e12 : a.tmps.getD 53 undef = .int .u32 (o1 : Int) := hR 12 (by decide)
        have e13 : a.tmps.getD 54 undef = .string s := hR 13 (by decide)
        have e14 : a.tmps.getD 55 undef = .int .i64 (p : Int) := hR 14 (by decide)
        have e15 : a.tmps.getD 56 undef = .int .i64 ((p : Int) + 2) := hR 15 (by decide)
        have e16 : a.tmps.getD 57 undef = .int .u8 (c2 : Int) := hR 16 (by decide)
        have e17 : a.tmps.getD 58 undef = .int .u32 (c2 : Int) := hR 17 (by decide)
        have e18 : a.tmps.getD 59 undef = .int .u32 ((c2 : Int) * 65536) := hR 18 (by decide)
        have e19 : a.tmps.getD 60 undef = .int .u32 (o2 : Int) := hR 19 (by decide)
        have e20 : a.tmps.getD 61 undef = .string s := hR 20 (by decide)
        have e21 : a.tmps.getD 62 undef = .int .i64 (p : Int) := hR 21 (by decide)
        have e22 : a.tmps.getD 63 undef = .int .i64 ((p : Int) + 3) := hR 22 (by decide)
        have e23 : a.tmps.getD 64 undef = .int .u8 (c3 : Int) := hR 23 (by decide)
        have e24 : a.tmps.getD 65 undef = .int .u32 (c3 : Int) := hR 24 (by decide)
        have e25 : a.tmps.getD 66 undef = .int .u32 ((c3 : Int) * 16777216) := hR 25 (by decide)
        have e26 : a.tmps.getD 67 undef = .int .u32 (X : Int) := hR 26 (by decide)
        rw [hF.fold (by kernel_rfl)]
        have e27b : a.tmps.getD 68 undef = .slice (some ⟨gN, 0, none⟩) 1 1 := e27
        simp only [List.foldl_cons, List.foldl_nil, e0, e1, e2, e3, e4, e5, e6, e7, e8, e9, e10, e11, e12, e13, e14, e15, e16, e17, e18, e19, e20, e21, e22, e23, e24, e25, e26, e27b]
        simp only [Act.put, List.setIfInBounds_toArray, List.set_cons_zero, List.set_cons_succ]
        change wpOps _ _ _ [28, 29, 30] _ _
        simp only [wpOps_cons]
        clear e0 e1 e2 e3 e4 e5 e6 e7 e8 e9 e10 e11 e12 e13 e14 e15 e16 e17 e18 e19 e20 e21 e22 e23 e24 e25 e26 e27 e27b hR hF
        have KX := Lib.hid hb'
        have HCx := Lib.hid (cells_of HC.out hb')
        have HOx := Lib.hid (own_later HO.out hb')
        have HBx := Lib.hid (HB.out.trans (hb'.mono HB.out.size))
        have HGN := Lib.hid hgN
        have zx := hb'.size
        have zw := HB.out.size
        have zg := heap_lt HC.out
        clear hb' hgN
        simp only [wpOp, List.getElem?_toArray, List.getElem?_cons_succ, List.getElem?_cons_zero, Region.wanted, if_true]
        refine Or.inl ?_
        refine wp_append_lies _ (.tmp 42) (.tmp 68) 22 rfl (w.heap.size + 1 + 1) 75 i0 (.int .u32 0) 1 4 Tryd.underlying22 hi hz0 hz1 hz2 rfl (by decide) v k (cells (rdn l k)) rfl HOx.out ⟨gN, 0, none⟩ 1 1 [.int .u32 (X : Int)] rfl rfl (World.news_of_block HGN.out) (by intro u hu; simp at hu; subst hu; rfl) (by omega) (by unfold maxLen; omega) (by omega) (by omega) _ rfl ?_
        intro g' cap w9 hown hgrow hat hlt9
        have HC9 := Lib.hid ((hgrow.block (w.heap.size + 1) (by omega) (fun e => by have := (HOx.out.lt _ e.symm).1; omega)).trans HCx.out)
        have HZ9' := Lib.hid ((hgrow.block w.heap.size (by omega) (fun e => by have := (HOx.out.lt _ e.symm).1; omega)).trans (cells_of HZ.out (show Below wr.heap.size wr x from KX.out)))
        have HB9 := Lib.hid (HBx.out.grown hgrow (by omega) (fun k hk => by have := (HOx.out.lt k hk).1; omega))
        have HO9 := Lib.hid (show w9.ownsRow (w.heap.size + 1 + 1) 75 1 (.slice (some ⟨g', 0, none⟩) (k + 1) cap) (k + 1) (cells (rdn l (k + 1))) by rw [RD.out]; exact hown)
        clear hown hgrow hat hlt9
        have f0 := cell_of_row w9 _ 0 _ _ _ HC9.out
        have f1 := cell_of_row w9 _ 1 _ _ _ HC9.out
        simp only [List.getElem?_toArray, List.getElem?_cons_succ, List.getElem?_cons_zero] at f0 f1
        have q1 := frozen_of_row w9 _ 1 _ _ HC9.out
        have z9 := heap_lt HC9.out
        go_simp
        rw [wpOps_cons]
        simp only [wpOp, List.getElem?_toArray, List.getElem?_cons_succ, List.getElem?_cons_zero, Region.wanted, if_true]
        refine Or.inl ?_
        simp only [Oper.wp, execOp]
        go_simp
        try rw [wpOps_cons]
        simp only [wpOp, List.getElem?_toArray, List.getElem?_cons_succ, List.getElem?_cons_zero, Region.wanted, if_true]
        refine Or.inl ?_
        simp only [Oper.wp, execOp]
        go_simp
        try simp only [wpOps]
        have HK9 := Lib.hid (And.intro HC9.out (And.intro HO9.out HB9.out))
        have HZ9 := Lib.hid (show w9.heap[w.heap.size]? = _ from (HZ9'.out))
        clear f0 f1 q1 z9 HC9 HO9 HB9 HCx HOx HBx HGN zx zw zg
        obtain ⟨hw1, hw2⟩ := W4.out
        go_wp2
        go_roundw
        case rel => exact ⟨k + 1, p + 4, _, by omega, Lib.hid (by have := HP.out; omega), by go_num, Lib.hid (heap_setCell_same _ _ 1 _ _ _ HK9.out.1), Lib.hid (own_set HK9.out.2.1 (by omega) _ _), Lib.hid (HK9.out.2.2.setCell (by simp <;> omega) _), Lib.hid ((heap_setCell_other _ _ _ _ (by simp)).trans HZ9.out)⟩
        case measure => simp [intOf]; have := HP.out; have := HSZ.out; omega
    · obtain rfl : k = n := by omega
      have dlt : decide ((p : Int) < (sz : Int)) = false := by have := HP.out; have := HSZ.out; exact decide_eq_false (by omega)
      have dltn : decide (p < sz) = false := by have := HP.out; have := HSZ.out; exact decide_eq_false (by omega)
      obtain ⟨A, c, hv, hdg⟩ := dg_of_own HO.out (rdn_ok l k)
      rw [rdn_len] at hv
      subst hv
      have HDG := Lib.hid hdg
      clear hdg
      have f0 := cell_of_row wr _ 0 _ _ _ HC.out
      have f1 := cell_of_row wr _ 1 _ _ _ HC.out
      simp only [List.getElem?_toArray, List.getElem?_cons_succ, List.getElem?_cons_zero] at f0 f1
      have zg := heap_lt HC.out
      cases q
      · have hno : rightB neg (rdn l k) = false ∨ 400 < (rdn l k).length := by
          rw [rdn_len]
          have := HQ.out
          by_cases h1 : k ≤ 400
          · rw [decide_eq_true h1] at this; exact .inl (by simpa using this)
          · exact .inr (by omega)
        have RB := rzbytes_no A c neg (rdn l k) wr HDG.out (by rw [rdn_len]; have := HNB.out; omega) hno
        rw [rdn_len] at RB
        have RBH := Lib.hid RB
        clear RB hno
        go_wp2_with fail
        refine RBH.out.mono ?_
        rintro e w5 ⟨rfl, hb⟩
        have HZ5 := Lib.hid (cells_of HZ.out hb)
        have HB5 := Lib.hid (HB.out.trans (hb.mono HB.out.size))
        clear hb f0 f1 zg
        have f0 := cell_of_row w5 _ 0 _ _ _ HZ5.out
        have f1 := cell_of_row w5 _ 1 _ _ _ HZ5.out
        simp only [List.getElem?_toArray, List.getElem?_cons_succ, List.getElem?_cons_zero] at f0 f1
        have q0 := frozen_of_row w5 _ 0 _ _ HZ5.out
        have q1 := frozen_of_row w5 _ 1 _ _ HZ5.out
        have zg := heap_lt HZ5.out
        go_wp2
        obtain ⟨w6, hw6⟩ : ∃ w6 : World, w6 = (w5.setCell ⟨w.heap.size, 0, none⟩ (.bool false)).setCell ⟨w.heap.size, 1, none⟩ (.slice none 0 0) := ⟨_, rfl⟩
        rw [← hw6]
        have HC6 : w6.heap[w.heap.size]? = some (.cells #[.bool false, .slice none 0 0] 24 (0, 0)) := by
          rw [hw6]; exact heap_setCell_same _ _ 1 _ _ (.slice none 0 0) (heap_setCell_same _ _ 0 _ _ (.bool false) HZ5.out)
        have HB6 : Below w.heap.size w w6 := by rw [hw6]; exact (HB5.out.setCell (by simp) _).setCell (by simp) _
        have r0 := cell_of_row w6 _ 0 _ _ _ HC6
        have r1 := cell_of_row w6 _ 1 _ _ _ HC6
        simp only [List.getElem?_toArray, List.getElem?_cons_succ, List.getElem?_cons_zero] at r0 r1
        refine bodyPost_ret (v := .tuple #[.agg #[.bool false, .slice none 0 0], .string ⟨#[]⟩, .bool false]) (by simp [results, Tryd.results40, go_sem, r0, r1]) rfl ?_
        exact ⟨HB6, rfl⟩
      · have hq := HQ.out
        have h4 : k ≤ 400 := by
          by_cases h1 : k ≤ 400
          · exact h1
          · rw [decide_eq_false h1] at hq; simp at hq
        have hr : rightB neg (rdn l k) = true := by rw [decide_eq_true h4] at hq; simpa using hq
        have RB := rzbytes_any A c neg (rdn l k) wr HDG.out (by rw [rdn_len]; exact h4) hr
        rw [rdn_len] at RB
        have RBH := Lib.hid RB
        have hx1 : s.extract 0 sz = ⟨(zbytes neg (rdn l k)).toArray⟩ := by rw [ext_take, HLL.out, ZB.out, HSZ.out]
        have hx2 : s.extract sz s.size = ⟨(l.drop (2 + 4 * k)).toArray⟩ := by rw [ext_drop, HLL.out, HSZ.out]
        have HX := Lib.hid (And.intro hx1 hx2)
        have hss : (sz : Int) ≤ (s.size : Int) := by have := HSS.out; omega
        clear RB hq h4 hr hx1 hx2
        go_wp2_with fail
        refine RBH.out.mono ?_
        rintro e w5 ⟨rfl, hb⟩
        have HC5 := Lib.hid (cells_of HC.out hb)
        have HZ5 := Lib.hid (cells_of HZ.out hb)
        have HB5 := Lib.hid (HB.out.trans (hb.mono HB.out.size))
        have HD5 := Lib.hid (HDG.out.below hb)
        clear hb f0 f1 zg
        have f0 := cell_of_row w5 _ 0 _ _ _ HC5.out
        have f1 := cell_of_row w5 _ 1 _ _ _ HC5.out
        have g0 := cell_of_row w5 _ 0 _ _ _ HZ5.out
        have g1 := cell_of_row w5 _ 1 _ _ _ HZ5.out
        simp only [List.getElem?_toArray, List.getElem?_cons_succ, List.getElem?_cons_zero] at f0 f1 g0 g1
        have q0 := frozen_of_row w5 _ 0 _ _ HZ5.out
        have q1 := frozen_of_row w5 _ 1 _ _ HZ5.out
        have zg := heap_lt HZ5.out
        have zc := heap_lt HC5.out
        have hx1 := HX.out.1
        go_wp2_with fail
        go_region
        go_wp2
        rw [HX.out.2]
        obtain ⟨w6, hw6⟩ : ∃ w6 : World, w6 = ((w5.setCell ⟨w.heap.size, 0, none⟩ (.bool neg)).setCell ⟨w.heap.size, 1, none⟩ (.slice A k c)).drew := ⟨_, rfl⟩
        rw [← hw6]
        have HC6 : w6.heap[w.heap.size]? = some (.cells #[.bool neg, .slice A k c] 24 (0, 0)) := by
          rw [hw6]; exact heap_setCell_same _ _ 1 _ _ (.slice A k c) (heap_setCell_same _ _ 0 _ _ (.bool neg) HZ5.out)
        have HB6 : Below w.heap.size w w6 := by rw [hw6]; exact below_drewN ((HB5.out.setCell (by simp) _).setCell (by simp) _) 1
        have KP : Kept w5 w6 := by
          rw [hw6]
          exact ((((Only.refl _ w5).setCell 0 _).kept HZ5.out noint2').trans (((Only.refl _ _).setCell 1 _).kept (heap_setCell_same _ _ 0 _ _ (.bool neg) HZ5.out) noint2')).trans (Kept.below (below_drewN (Below.refl _ _) 1))
        have r0 := cell_of_row w6 _ 0 _ _ _ HC6
        have r1 := cell_of_row w6 _ 1 _ _ _ HC6
        simp only [List.getElem?_toArray, List.getElem?_cons_succ, List.getElem?_cons_zero] at r0 r1
        refine bodyPost_ret (v := .tuple #[.agg #[.bool neg, .slice A k c], .string ⟨(l.drop (2 + 4 * k)).toArray⟩, .bool true]) (by simp [results, Tryd.results40, go_sem, r0, r1]) rfl ?_
        exact ⟨HB6, A, c, rfl, HD5.out.kept KP⟩
set_option maxHeartbeats 2000000 in
set_option maxRecDepth 100000 in
theorem rztake_short (s : ByteArray) (w : World) (h2 : s.size < 2) :
    Calls Tryd.prog 40 #[.string s] w fun e w' => Below w.heap.size w w' ∧ e = .returned (.tuple #[.agg #[.bool false, .slice none 0 0], .string ⟨#[]⟩, .bool false]) := by
  have d0 : decide ((s.size : Int) < 2) = true := decide_eq_true (by omega)
  clear h2
  go_enter Tryd.func40, Tryd.ntmps40
  go_wp2
  refine bodyPost_ret (v := .tuple #[.agg #[.bool false, .slice none 0 0], .string ⟨#[]⟩, .bool false]) (by simp [results, Tryd.results40, go_sem]) rfl ?_
  exact ⟨below1 w _, rfl⟩
set_option maxHeartbeats 8000000 in
set_option maxRecDepth 100000 in
theorem rztake_far (s : ByteArray) (w : World) (l : List UInt8) (hl : s.data.toList = l) (h2 : 2 ≤ l.length) (n : Nat) (hn : hd2 l / 2 = n) (hno : l.length < 4 * n + 2) :
    Calls Tryd.prog 40 #[.string s] w fun e w' => Below w.heap.size w w' ∧ e = .returned (.tuple #[.agg #[.bool false, .slice none 0 0], .string ⟨#[]⟩, .bool false]) := by
  have hs : s.size = l.length := by rw [← hl]; simp
  have d0 : decide ((s.size : Int) < 2) = false := decide_eq_false (by omega)
  have n0 : 0 < s.size := by omega
  have n1 : 1 < s.size := by omega
  have e0 : (0 : Int) < (s.size : Int) := by omega
  have e1 : (1 : Int) < (s.size : Int) := by omega
  obtain ⟨b0, hb0⟩ : ∃ b0 : Nat, (s[0]'n0).toNat = b0 := ⟨_, rfl⟩
  obtain ⟨b1, hb1⟩ : ∃ b1 : Nat, (s[1]'n1).toNat = b1 := ⟨_, rfl⟩
  have l0 : b0 < 256 := by rw [← hb0]; exact UInt8.toNat_lt _
  have l1 : b1 < 256 := by rw [← hb1]; exact UInt8.toNat_lt _
  have hH : b0 * 256 + b1 = hd2 l := by unfold hd2; rw [← hl, ← bt_get s 0 n0, ← bt_get s 1 n1, hb0, hb1]
  obtain ⟨h, hh⟩ : ∃ h : Nat, hd2 l = h := ⟨_, rfl⟩
  rw [hh] at hH hn
  have hnb : n ≤ 32767 := by omega
  have HF := Lib.hid (head_facts (neg := decide (h % 2 = 1)) l0 l1 hH hn rfl)
  obtain ⟨sz, hsz⟩ : ∃ sz, 2 + 4 * n = sz := ⟨_, rfl⟩
  have SF := Lib.hid (size_facts hnb hsz)
  have d5 : decide ((s.size : Int) < (sz : Int)) = true := decide_eq_true (by omega)
  have d5n : decide (s.size < sz) = true := decide_eq_true (by omega)
  clear hs hH hh hn h2 hl hnb hsz hno
  go_enter Tryd.func40, Tryd.ntmps40
  have hO := HF.out.1
  go_wp2_with fail
  go_quiet (fail)
  clear hO
  have hQ2 := HF.out.2.2.1
  have hS1 := SF.out.1
  have hS2 := SF.out.2.1
  go_wp2
  refine bodyPost_ret (v := .tuple #[.agg #[.bool false, .slice none 0 0], .string ⟨#[]⟩, .bool false]) (by simp [results, Tryd.results40, go_sem]) rfl ?_
  exact ⟨((below_drewN (below1 w _) _).setCell (by simp) _).setCell (by simp) _, rfl⟩
/-- WHAT THE DOCUMENT READS. -/
theorem rztake_any (s : ByteArray) (w : World) (l : List UInt8) (hl : s.data.toList = l) (hmax : l.length ≤ 9223372036854775807) :
    Calls Tryd.prog 40 #[.string s] w fun e w' => Below w.heap.size w w' ∧ (¬ tkOk l → e = .returned (.tuple #[.agg #[.bool false, .slice none 0 0], .string ⟨#[]⟩, .bool false])) ∧
      (tkOk l → ∃ A c, e = .returned (.tuple #[.agg #[.bool (decide (hd2 l % 2 = 1)), .slice A (hd2 l / 2) c], .string ⟨(l.drop (2 + 4 * (hd2 l / 2))).toArray⟩, .bool true]) ∧ Dg w' A c (rdn l (hd2 l / 2))) := by
  have hs : s.size = l.length := by rw [← hl]; simp
  by_cases h2 : l.length < 2
  · exact (rztake_short s w (by omega)).mono fun e w' ⟨hb, he⟩ => ⟨hb, fun _ => he, fun h => by have := h.1; omega⟩
  · by_cases h3 : l.length < 4 * (hd2 l / 2) + 2
    · exact (rztake_far s w l hl (by omega) _ rfl h3).mono fun e w' ⟨hb, he⟩ => ⟨hb, fun _ => he, fun h => by have := h.2.2.1; omega⟩
    · refine (rztake_go s w l hl (by omega) _ rfl (by omega) hmax _ rfl _ rfl).mono ?_
      rintro e w' ⟨hb, h4, h5⟩
      refine ⟨hb, fun h => h4 ?_, fun h => h5 (by rw [decide_eq_true h.2.1, h.2.2.2]; rfl)⟩
      by_cases hk : hd2 l / 2 ≤ 400
      · by_cases hr : rightB (decide (hd2 l % 2 = 1)) (rdn l (hd2 l / 2)) = true
        · exact absurd ⟨by omega, hk, by omega, hr⟩ h
        · rw [decide_eq_true hk]; simpa using hr
      · rw [decide_eq_false hk]; rfl
end Go.Proofs.YthgkdpfkaobgoaaDoor
end

section
/-
  What the law on bytes calls: Bytes and Take, answered or refused.
-/
namespace Go.Proofs.YthgkdpfkaobgoaaDoor
open Go.RowKit
section
variable {A : Option Addr} {c : Nat} {s neg : Bool} {xs ds : List Nat} {t l : List UInt8} {w : World} {b : ByteArray}
theorem zbytes_y (h : Dg w A c xs) (hl : xs.length ≤ 400) (hr : rightB s xs = true) (ht : zbytes s xs = t) :
    Calls Tryd.prog 37 #[.agg #[.bool s, .slice A xs.length c]] w fun e w' => e = .returned (.tuple #[.string ⟨t.toArray⟩, .int .i64 0]) ∧ Below w.heap.size w w' := by
  subst ht; exact zbytes_any A c s xs w h hl hr
theorem rzbytes_y (h : Dg w A c xs) (hl : xs.length ≤ 400) (hr : rightB s xs = true) (ht : zbytes s xs = t) :
    Calls Tryd.prog 38 #[.agg #[.bool s, .slice A xs.length c]] w fun e w' => e = .returned (.tuple #[.string ⟨t.toArray⟩, .bool true]) ∧ Below w.heap.size w w' := by
  subst ht; exact rzbytes_any A c s xs w h hl hr
theorem zbytes_n (h : Dg w A c xs) (hl : xs.length ≤ 9223372036854775807) (hno : rightB s xs = false ∨ 400 < xs.length) :
    Calls Tryd.prog 37 #[.agg #[.bool s, .slice A xs.length c]] w fun e w' => e = .returned (.tuple #[.string ⟨#[]⟩, .int .i64 1]) ∧ Below w.heap.size w w' := zbytes_no A c s xs w h hl hno
theorem rzbytes_n (h : Dg w A c xs) (hl : xs.length ≤ 9223372036854775807) (hno : rightB s xs = false ∨ 400 < xs.length) :
    Calls Tryd.prog 38 #[.agg #[.bool s, .slice A xs.length c]] w fun e w' => e = .returned (.tuple #[.string ⟨#[]⟩, .bool false]) ∧ Below w.heap.size w w' := rzbytes_no A c s xs w h hl hno
theorem ztake_y (hl : b.data.toList = l) (hm : l.length ≤ 9223372036854775807) (h : tkOk l) (hd : rdn l (hd2 l / 2) = ds) (hn : decide (hd2 l % 2 = 1) = neg) (ht : l.drop (2 + 4 * (hd2 l / 2)) = t) :
    Calls Tryd.prog 39 #[.string b] w fun e w' => ∃ A c, e = .returned (.tuple #[.agg #[.bool neg, .slice A ds.length c], .string ⟨t.toArray⟩, .int .i64 0]) ∧ Dg w' A c ds ∧ Below w.heap.size w w' := by
  subst hd hn ht
  refine (ztake_any b w l hl hm).mono ?_
  rintro e w' ⟨hb, _, h5⟩
  obtain ⟨A, c, he, hd⟩ := h5 h
  exact ⟨A, c, by rw [rdn_len]; exact he, hd, hb⟩
theorem rztake_y (hl : b.data.toList = l) (hm : l.length ≤ 9223372036854775807) (h : tkOk l) (hd : rdn l (hd2 l / 2) = ds) (hn : decide (hd2 l % 2 = 1) = neg) (ht : l.drop (2 + 4 * (hd2 l / 2)) = t) :
    Calls Tryd.prog 40 #[.string b] w fun e w' => ∃ A c, e = .returned (.tuple #[.agg #[.bool neg, .slice A ds.length c], .string ⟨t.toArray⟩, .bool true]) ∧ Dg w' A c ds ∧ Below w.heap.size w w' := by
  subst hd hn ht
  refine (rztake_any b w l hl hm).mono ?_
  rintro e w' ⟨hb, _, h5⟩
  obtain ⟨A, c, he, hd⟩ := h5 h
  exact ⟨A, c, by rw [rdn_len]; exact he, hd, hb⟩
theorem ztake_n (hl : b.data.toList = l) (hm : l.length ≤ 9223372036854775807) (h : ¬ tkOk l) :
    Calls Tryd.prog 39 #[.string b] w fun e w' => e = .returned (.tuple #[.agg #[.bool false, .slice none 0 0], .string ⟨#[]⟩, .int .i64 2]) ∧ Below w.heap.size w w' :=
  (ztake_any b w l hl hm).mono fun _ _ ⟨hb, h4, _⟩ => ⟨h4 h, hb⟩
theorem rztake_n (hl : b.data.toList = l) (hm : l.length ≤ 9223372036854775807) (h : ¬ tkOk l) :
    Calls Tryd.prog 40 #[.string b] w fun e w' => e = .returned (.tuple #[.agg #[.bool false, .slice none 0 0], .string ⟨#[]⟩, .bool false]) ∧ Below w.heap.size w w' :=
  (rztake_any b w l hl hm).mono fun _ _ ⟨hb, h4, _⟩ => ⟨h4 h, hb⟩
end
end Go.Proofs.YthgkdpfkaobgoaaDoor
end

section
/-
  Operations under a guard, in a region whose operands come in whatever order.
-/
namespace Go.Proofs.YthgkdpfkaobgoaaDoor
open Go.RowKit
theorem ite_yes {c : Prop} [Decidable c] {a b : Prop} (hc : c) (ha : a) : if c then a else b := by rw [if_pos hc]; exact ha
theorem ite_not {c : Prop} [Decidable c] {a b : Prop} (hc : ¬ c) (hb : b) : if c then a else b := by rw [if_neg hc]; exact hb
theorem yielded_of {ops : Array Oper} {tmps : Array Value} {j : Nat} {t : Tmp} {b : Bool} (h1 : (ops[j]?).bind (·.dst) = some t) (h2 : tmps.getD t undef = .bool b) : yielded ops tmps j = some b := by
  unfold yielded
  rw [h1]
  simp only [Option.bind_some]
  rcases h : tmps[t]? with _ | v
  · rw [Array.getD_eq_getD_getElem?, h] at h2; cases h2
  · rw [Array.getD_eq_getD_getElem?, h] at h2
    simp only [Option.getD_some] at h2
    rw [h2]
theorem yielded_none {ops : Array Oper} {tmps : Array Value} {j : Nat} {t : Tmp} (h1 : (ops[j]?).bind (·.dst) = some t) (h2 : tmps.getD t undef = undef) : yielded ops tmps j = none := by
  unfold yielded
  rw [h1]
  simp only [Option.bind_some]
  rcases h : tmps[t]? with _ | v
  · rfl
  · rw [Array.getD_eq_getD_getElem?, h] at h2
    simp only [Option.getD_some] at h2
    rw [h2]; rfl
theorem wanted_none {o : Oper} {f : Nat → Option Bool} {j : Nat} {b : Bool} (hg : o.guard = some (j, b)) (hf : f j = none) : ¬ Region.wanted o f = true := by
  simp [Region.wanted, hg, hf]
theorem wanted_yes {o : Oper} {f : Nat → Option Bool} {j : Nat} {b : Bool} (hg : o.guard = some (j, b)) (hf : f j = some b) : Region.wanted o f = true := by
  simp [Region.wanted, hg, hf]
theorem wanted_not {o : Oper} {f : Nat → Option Bool} {j : Nat} {b : Bool} (hg : o.guard = some (j, b)) (hf : f j = some (!b)) : ¬ Region.wanted o f = true := by
  cases b <;> simp [Region.wanted, hg, hf]
end Go.Proofs.YthgkdpfkaobgoaaDoor
end

section
/-
  The law ZintBytes of chapter 4, walked.
-/
namespace Go.Proofs.YthgkdpfkaobgoaaDoor
open Go.RowKit
set_option maxHeartbeats 16000000 in
set_option maxRecDepth 100000 in
theorem zlbytes_yy (Ax : Option Addr) (cx : Nat) (sx : Bool) (xsx : List Nat) (b : ByteArray) (lx : xsx.length ≤ 9223372036854775807) (hmax : b.data.toList.length ≤ 9223372036854775807) (r0 : rightB sx xsx = true) (r4 : xsx.length ≤ 400) (k0 : tkOk b.data.toList) (w : World) (hx : Dg w Ax cx xsx) (htab : P10 w) :
    Calls Tryd.prog 5 #[.agg #[.bool sx, .slice Ax xsx.length cx], .string b] w fun e w' => e = .returned (.bool true) ∧ Below w.heap.size w w' := by
  obtain ⟨tx, htx⟩ : ∃ t, xsx.take 12 = t := ⟨_, rfl⟩
  have blx : tx.length ≤ 12 := by rw [← htx]; exact List.length_take_le _ _
  have TTx := Lib.hid htx
  obtain ⟨vx, hvx⟩ := is_z (sg sx (val tx))
  have bzx : (digs vx.natAbs).length ≤ 12 := Nat.le_trans (zlen_raw (by rw [← htx]; exact (hx.take 12).2.1) hvx) blx
  have HVx := Lib.hid hvx
  clear hvx htx
  have LX := Lib.hid lx
  have HM := Lib.hid hmax
  have R0 := Lib.hid r0
  have K0 := Lib.hid k0
  have R4 := Lib.hid r4
  obtain ⟨bt, hbt⟩ : ∃ t, zbytes sx xsx = t := ⟨_, rfl⟩
  have HBT := Lib.hid hbt
  clear hbt r4
  clear lx hmax r0 k0
  obtain ⟨tt, htt⟩ : ∃ t, tz vx = t := ⟨_, rfl⟩
  have HTT := Lib.hid htt
  clear htt
  obtain ⟨ds, hds⟩ : ∃ d, rdn b.data.toList (hd2 b.data.toList / 2) = d := ⟨_, rfl⟩
  have hdl : ds.length ≤ 400 := by rw [← hds, rdn_len]; exact K0.out.2.1
  have HDS := Lib.hid hds
  obtain ⟨ng, hng⟩ : ∃ d, decide (hd2 b.data.toList % 2 = 1) = d := ⟨_, rfl⟩
  have HNG := Lib.hid hng
  obtain ⟨rt, hrt⟩ : ∃ d, b.data.toList.drop (2 + 4 * (hd2 b.data.toList / 2)) = d := ⟨_, rfl⟩
  have HRT := Lib.hid hrt
  have HDL := Lib.hid hdl
  clear hds hng hrt hdl
  have lbx := Lib.hid (show (tx).length ≤ 100000 by omega)
  have lbx12 := Lib.hid (show tx.length ≤ 12 from blx)
  have HT := Lib.hid htab
  clear htab
  have EX := Lib.hid (fun V hv => examples_any V hv)
  go_enter Tryd.func5, Tryd.ntmps5
  go_upto_region 1 with fail
  obtain ⟨w0, hW⟩ : ∃ W : World, W = (w.alloc (.cells #[.bool sx, .slice Ax xsx.length cx] 24)) := ⟨_, rfl⟩
  rw [← hW]
  have hb : Below w.heap.size w w0 := by rw [hW]; exact below1 w _
  have L0 := Lib.hid (((((live_start w).step hb).add (hx.below hb)).add (show Dg w0 Ax cx tx by rw [← TTx.out]; exact (hx.below hb).take 12)))
  have Rx_0 := Lib.hid (show w0.heap[w.heap.size]? = some (.cells #[.bool sx, .slice Ax xsx.length cx] 24 (0, 0)) by rw [hW]; have := heap_alloc_new w (.cells #[.bool sx, .slice Ax xsx.length cx] 24); simpa using this)
  clear hW hb hx
  go_wp2_with fail
  refine (EX.out w0 (p10_below HT.out L0.out.1)).mono ?_
  rintro e w1 ⟨rfl, hb⟩
  have L1 := Lib.hid (L0.out.step hb)
  have Rx_1 := Lib.hid (cells_of Rx_0.out hb)
  clear hb 
  have fx0 := cell_of_row w1 _ 0 _ _ _ Rx_1.out
  have fx1 := cell_of_row w1 _ 1 _ _ _ Rx_1.out
  have xx := heap_lt Rx_1.out
  simp only [List.getElem?_toArray, List.getElem?_cons_zero, List.getElem?_cons_succ] at fx0 fx1
  go_wp2_with fail
  refine (zbytes_y (s := sx) (L1.out.get (A := Ax) (c := cx) (xs := xsx) (by simp)) R4.out R0.out HBT.out).mono ?_
  rintro e w2 ⟨rfl, hb⟩
  have L2 := Lib.hid (L1.out.step hb)
  have Rx_2 := Lib.hid (cells_of Rx_1.out hb)
  clear fx0 fx1 xx
  clear hb 
  have fx0 := cell_of_row w2 _ 0 _ _ _ Rx_2.out
  have fx1 := cell_of_row w2 _ 1 _ _ _ Rx_2.out
  have xx := heap_lt Rx_2.out
  simp only [List.getElem?_toArray, List.getElem?_cons_zero, List.getElem?_cons_succ] at fx0 fx1
  go_wp2_with fail
  refine (rzbytes_y (s := sx) (L2.out.get (A := Ax) (c := cx) (xs := xsx) (by simp)) R4.out R0.out HBT.out).mono ?_
  rintro e w3 ⟨rfl, hb⟩
  have L3 := Lib.hid (L2.out.step hb)
  have Rx_3 := Lib.hid (cells_of Rx_2.out hb)
  clear fx0 fx1 xx
  clear hb 
  go_wp2_with fail
  refine (ztake_y (l := b.data.toList) rfl HM.out K0.out HDS.out HNG.out HRT.out).mono ?_
  rintro e w4 ⟨A4, c4, rfl, hd, hb⟩
  have L4 := Lib.hid ((L3.out.step hb).add hd)
  have Rx_4 := Lib.hid (cells_of Rx_3.out hb)
  clear hb hd
  go_wp2_with fail
  have Lx5 := Lib.hid (L4.out.step (below1 w4 (.cells #[.bool ng, .slice A4 ds.length c4] 24)))
  refine (rztake_y (l := b.data.toList) rfl HM.out K0.out HDS.out HNG.out HRT.out).mono ?_
  rintro e w5 ⟨A5, c5, rfl, hd, hb⟩
  have L5 := Lib.hid ((Lx5.out.step hb).add hd)
  have Rx_5 := Lib.hid (cells_of (cells_of Rx_4.out (below1 w4 (.cells #[.bool ng, .slice A4 ds.length c4] 24))) hb)
  have Ra_5 := Lib.hid (cells_of (heap_alloc_new w4 (.cells #[.bool ng, .slice A4 ds.length c4] 24)) hb)
  clear hb hd
  have fa0 := cell_of_row w5 _ 0 _ _ _ Ra_5.out
  have fa1 := cell_of_row w5 _ 1 _ _ _ Ra_5.out
  have xa := heap_lt Ra_5.out
  simp only [List.getElem?_toArray, List.getElem?_cons_zero, List.getElem?_cons_succ] at fa0 fa1
  go_wp2_with fail
  have Lx6 := Lib.hid (L5.out.step (below1 w5 (.cells #[.bool ng, .slice A5 ds.length c5] 24)))
  refine (same_any A4 A5 c4 c5 ng ds _ (Lx6.out.get (A := A4) (c := c4) (xs := ds) (by simp)) (Lx6.out.get (A := A5) (c := c5) (xs := ds) (by simp)) (Nat.le_trans HDL.out (by omega))).mono ?_
  rintro e w6 ⟨rfl, hb⟩
  have L6 := Lib.hid (Lx6.out.step hb)
  have Rx_6 := Lib.hid (cells_of (cells_of Rx_5.out (below1 w5 (.cells #[.bool ng, .slice A5 ds.length c5] 24))) hb)
  have Ra_6 := Lib.hid (cells_of (cells_of Ra_5.out (below1 w5 (.cells #[.bool ng, .slice A5 ds.length c5] 24))) hb)
  clear fa0 fa1 xa
  have Rc_6 := Lib.hid (cells_of (heap_alloc_new w5 (.cells #[.bool ng, .slice A5 ds.length c5] 24)) hb)
  clear hb 
  have fx0 := cell_of_row w6 _ 0 _ _ _ Rx_6.out
  have fx1 := cell_of_row w6 _ 1 _ _ _ Rx_6.out
  have xx := heap_lt Rx_6.out
  simp only [List.getElem?_toArray, List.getElem?_cons_zero, List.getElem?_cons_succ] at fx0 fx1
  go_wp2_with fail
  refine (lshort_v (s := sx) (L6.out.get (A := Ax) (c := cx) (xs := xsx) (by simp)) (by omega) TTx.out).mono ?_
  rintro e w7 ⟨rfl, hb⟩
  have L7 := Lib.hid (L6.out.step hb)
  have Rx_7 := Lib.hid (cells_of Rx_6.out hb)
  have Ra_7 := Lib.hid (cells_of Ra_6.out hb)
  have Rc_7 := Lib.hid (cells_of Rc_6.out hb)
  clear fx0 fx1 xx
  clear hb 
  go_wp2_with fail
  obtain ⟨w8, hW⟩ : ∃ W : World, W = (w7.alloc (.cells #[.bool sx, .slice Ax tx.length cx] 24)) := ⟨_, rfl⟩
  rw [← hW]
  have hb : Below w7.heap.size w7 w8 := by rw [hW]; exact below1 _ _
  have L8 := Lib.hid (L7.out.step hb)
  have Rx_8 := Lib.hid (cells_of Rx_7.out hb)
  have Ra_8 := Lib.hid (cells_of Ra_7.out hb)
  have Rc_8 := Lib.hid (cells_of Rc_7.out hb)
  have Ry_8 := Lib.hid (show w8.heap[w7.heap.size]? = some (.cells #[.bool sx, .slice Ax tx.length cx] 24 (0, 0)) by rw [hW]; exact heap_alloc_new _ _)
  clear hW hb
  refine wp_operands (W := w8) rfl 51 [48, 49, 50, 51, 52, 53, 54, 55, 56, 57, 58, 59, 60, 61, 62, 63, 64, 65, 66, 67, 68, 69, 70, 71, 72, 73, 74, 75, 76, 77, 78, 79, 80, 81, 82, 83, 84, 85, 86, 87, 88, 89, 90, 91, 92, 93, 94, 95, 96, 97, 98] (fun i u _ => match i with | 0 => u = .bool true | 1 => u = .bool true | 2 => u = .string ⟨bt.toArray⟩ | 3 => u = .string ⟨bt.toArray⟩ | 4 => u = .bool true | 5 => u = .bool true | 6 => u = .bool true | 7 => u = .bool true | 8 => u = .bool true | 9 => u = .int .i64 0 | 10 => u = .bool true | 11 => u = .bool true | 12 => u = .bool true | 13 => u = undef | 14 => u = undef | 15 => u = undef | 16 => u = undef | 17 => u = undef | 18 => u = undef | 19 => u = .bool true | 20 => u = .bool true | 21 => u = .bool true | 22 => u = .bool true | 23 => u = .bool true | 24 => u = .bool true | 25 => u = .string ⟨rt.toArray⟩ | 26 => u = .string ⟨rt.toArray⟩ | 27 => u = .bool true | 28 => u = .bool true | 29 => u = .bool true | 30 => u = .bool true | 31 => u = .bool true | 32 => u = .int .i64 0 | 33 => u = .bool true | 34 => u = .bool true | 35 => u = .bool true | 36 => u = undef | 37 => u = undef | 38 => u = undef | 39 => u = undef | 40 => u = undef | 41 => u = undef | 42 => u = .bool true | 43 => u = .bool true | 44 => u = .bool true | 45 => u = .agg #[.bool sx, .slice Ax tx.length cx] | 46 => u = .string ⟨tt.toArray⟩ | 47 => u = .agg #[.bool sx, .slice Ax tx.length cx] | 48 => u = .string ⟨tt.toArray⟩ | 49 => u = .bool true | 50 => u = .bool true | _ => True) (fun _ => false)
    (by decide) rfl (by kernel_rfl) (by kernel_rfl) (by decide) (by kernel_rfl) (fun _ _ _ _ _ h _ => h) (fun _ _ _ h => by cases h) ?_ ?_
  · intro i a x K hi hF hb hw hK
    have hi' : i = 0 ∨ i = 1 ∨ i = 2 ∨ i = 3 ∨ i = 4 ∨ i = 5 ∨ i = 6 ∨ i = 7 ∨ i = 8 ∨ i = 9 ∨ i = 10 ∨ i = 11 ∨ i = 12 ∨ i = 13 ∨ i = 14 ∨ i = 15 ∨ i = 16 ∨ i = 17 ∨ i = 18 ∨ i = 19 ∨ i = 20 ∨ i = 21 ∨ i = 22 ∨ i = 23 ∨ i = 24 ∨ i = 25 ∨ i = 26 ∨ i = 27 ∨ i = 28 ∨ i = 29 ∨ i = 30 ∨ i = 31 ∨ i = 32 ∨ i = 33 ∨ i = 34 ∨ i = 35 ∨ i = 36 ∨ i = 37 ∨ i = 38 ∨ i = 39 ∨ i = 40 ∨ i = 41 ∨ i = 42 ∨ i = 43 ∨ i = 44 ∨ i = 45 ∨ i = 46 ∨ i = 47 ∨ i = 48 ∨ i = 49 ∨ i = 50 := by omega
    rcases hi' with rfl | rfl | rfl | rfl | rfl | rfl | rfl | rfl | rfl | rfl | rfl | rfl | rfl | rfl | rfl | rfl | rfl | rfl | rfl | rfl | rfl | rfl | rfl | rfl | rfl | rfl | rfl | rfl | rfl | rfl | rfl | rfl | rfl | rfl | rfl | rfl | rfl | rfl | rfl | rfl | rfl | rfl | rfl | rfl | rfl | rfl | rfl | rfl | rfl | rfl | rfl
    · simp only [wpOp, List.getElem?_toArray, List.getElem?_cons_zero, Region.wanted, if_true]
      refine Or.inl ?_
      have e0 : a.eval (.tmp 5) = .bool true := hF.2.2 5 (by decide)
      clear hw hF
      simp only [Oper.wp, execOp]
      rw [e0]
      go_simp
      exact hK _ x (by first | rfl | simp) (Below.refl _ _) (fun h => by cases h)
    · simp only [wpOp, List.getElem?_toArray, List.getElem?_cons_succ, List.getElem?_cons_zero, Region.wanted, if_true]
      refine Or.inl ?_
      have e0 : a.tmps.getD 48 undef = .bool true := hw 0 (by kernel_rfl)
      clear hw hF
      simp only [Oper.wp, execOp]
      go_simp
      exact hK _ x (by first | rfl | simp) (Below.refl _ _) (fun h => by cases h)
    · simp only [wpOp, List.getElem?_toArray, List.getElem?_cons_succ, List.getElem?_cons_zero]
      have eg : a.tmps.getD 49 undef = .bool true := hw 1 (by kernel_rfl)
      refine ite_yes (wanted_yes rfl (yielded_of (t := 49) (by kernel_rfl) eg)) ?_
      clear eg
      refine Or.inl ?_
      have e0 : a.eval (.tmp 6) = .string ⟨bt.toArray⟩ := hF.2.2 6 (by decide)
      clear hw hF
      simp only [Oper.wp, execOp]
      rw [e0]
      go_simp
      exact hK _ x (by first | rfl | simp) (Below.refl _ _) (fun h => by cases h)
    · simp only [wpOp, List.getElem?_toArray, List.getElem?_cons_succ, List.getElem?_cons_zero]
      have eg : a.tmps.getD 49 undef = .bool true := hw 1 (by kernel_rfl)
      refine ite_yes (wanted_yes rfl (yielded_of (t := 49) (by kernel_rfl) eg)) ?_
      clear eg
      refine Or.inl ?_
      have e0 : a.eval (.tmp 8) = .string ⟨bt.toArray⟩ := hF.2.2 8 (by decide)
      clear hw hF
      simp only [Oper.wp, execOp]
      rw [e0]
      go_simp
      exact hK _ x (by first | rfl | simp) (Below.refl _ _) (fun h => by cases h)
    · simp only [wpOp, List.getElem?_toArray, List.getElem?_cons_succ, List.getElem?_cons_zero]
      have eg : a.tmps.getD 49 undef = .bool true := hw 1 (by kernel_rfl)
      refine ite_yes (wanted_yes rfl (yielded_of (t := 49) (by kernel_rfl) eg)) ?_
      clear eg
      refine Or.inl ?_
      have e0 : a.tmps.getD 50 undef = .string ⟨bt.toArray⟩ := hw 2 (by kernel_rfl)
      have e1 : a.tmps.getD 51 undef = .string ⟨bt.toArray⟩ := hw 3 (by kernel_rfl)
      clear hw hF
      simp only [Oper.wp, execOp]
      go_simp
      exact hK _ x (by first | rfl | simp) (Below.refl _ _) (fun h => by cases h)
    · simp only [wpOp, List.getElem?_toArray, List.getElem?_cons_succ, List.getElem?_cons_zero, Region.wanted, if_true]
      refine Or.inl ?_
      have e0 : a.tmps.getD 49 undef = .bool true := hw 1 (by kernel_rfl)
      have e1 : a.tmps.getD 52 undef = .bool true := hw 4 (by kernel_rfl)
      clear hw hF
      simp only [Oper.wp, execOp]
      go_simp
      exact hK _ x (by first | rfl | simp) (Below.refl _ _) (fun h => by cases h)
    · simp only [wpOp, List.getElem?_toArray, List.getElem?_cons_succ, List.getElem?_cons_zero, Region.wanted, if_true]
      refine Or.inl ?_
      have e0 : a.tmps.getD 53 undef = .bool true := hw 5 (by kernel_rfl)
      clear hw hF
      simp only [Oper.wp, execOp]
      go_simp
      exact hK _ x (by first | rfl | simp) (Below.refl _ _) (fun h => by cases h)
    · simp only [wpOp, List.getElem?_toArray, List.getElem?_cons_succ, List.getElem?_cons_zero]
      have eg : a.tmps.getD 54 undef = .bool true := hw 6 (by kernel_rfl)
      refine ite_yes (wanted_yes rfl (yielded_of (t := 54) (by kernel_rfl) eg)) ?_
      clear eg
      refine Or.inl ?_
      have e0 : a.eval (.tmp 9) = .bool true := hF.2.2 9 (by decide)
      clear hw hF
      simp only [Oper.wp, execOp]
      rw [e0]
      go_simp
      exact hK _ x (by first | rfl | simp) (Below.refl _ _) (fun h => by cases h)
    · simp only [wpOp, List.getElem?_toArray, List.getElem?_cons_succ, List.getElem?_cons_zero]
      have eg : a.tmps.getD 54 undef = .bool true := hw 6 (by kernel_rfl)
      refine ite_yes (wanted_yes rfl (yielded_of (t := 54) (by kernel_rfl) eg)) ?_
      clear eg
      refine Or.inl ?_
      have e0 : a.tmps.getD 55 undef = .bool true := hw 7 (by kernel_rfl)
      clear hw hF
      simp only [Oper.wp, execOp]
      go_simp
      exact hK _ x (by first | rfl | simp) (Below.refl _ _) (fun h => by cases h)
    · simp only [wpOp, List.getElem?_toArray, List.getElem?_cons_succ, List.getElem?_cons_zero]
      have eg : a.tmps.getD 56 undef = .bool true := hw 8 (by kernel_rfl)
      refine ite_yes (wanted_yes rfl (yielded_of (t := 56) (by kernel_rfl) eg)) ?_
      clear eg
      refine Or.inl ?_
      have e0 : a.eval (.tmp 7) = .int .i64 0 := hF.2.2 7 (by decide)
      clear hw hF
      simp only [Oper.wp, execOp]
      rw [e0]
      go_simp
      exact hK _ x (by first | rfl | simp) (Below.refl _ _) (fun h => by cases h)
    · simp only [wpOp, List.getElem?_toArray, List.getElem?_cons_succ, List.getElem?_cons_zero]
      have eg : a.tmps.getD 56 undef = .bool true := hw 8 (by kernel_rfl)
      refine ite_yes (wanted_yes rfl (yielded_of (t := 56) (by kernel_rfl) eg)) ?_
      clear eg
      refine Or.inl ?_
      have e0 : a.tmps.getD 57 undef = .int .i64 0 := hw 9 (by kernel_rfl)
      clear hw hF
      simp only [Oper.wp, execOp]
      go_simp
      exact hK _ x (by first | rfl | simp) (Below.refl _ _) (fun h => by cases h)
    · simp only [wpOp, List.getElem?_toArray, List.getElem?_cons_succ, List.getElem?_cons_zero]
      have eg : a.tmps.getD 54 undef = .bool true := hw 6 (by kernel_rfl)
      refine ite_yes (wanted_yes rfl (yielded_of (t := 54) (by kernel_rfl) eg)) ?_
      clear eg
      refine Or.inl ?_
      have e0 : a.tmps.getD 56 undef = .bool true := hw 8 (by kernel_rfl)
      have e1 : a.tmps.getD 58 undef = .bool true := hw 10 (by kernel_rfl)
      clear hw hF
      simp only [Oper.wp, execOp]
      go_simp
      exact hK _ x (by first | rfl | simp) (Below.refl _ _) (fun h => by cases h)
    · simp only [wpOp, List.getElem?_toArray, List.getElem?_cons_succ, List.getElem?_cons_zero]
      have eg : a.tmps.getD 54 undef = .bool true := hw 6 (by kernel_rfl)
      refine ite_yes (wanted_yes rfl (yielded_of (t := 54) (by kernel_rfl) eg)) ?_
      clear eg
      refine Or.inl ?_
      have e0 : a.tmps.getD 59 undef = .bool true := hw 11 (by kernel_rfl)
      clear hw hF
      simp only [Oper.wp, execOp]
      go_simp
      exact hK _ x (by first | rfl | simp) (Below.refl _ _) (fun h => by cases h)
    · simp only [wpOp, List.getElem?_toArray, List.getElem?_cons_succ, List.getElem?_cons_zero]
      have eg : a.tmps.getD 60 undef = .bool true := hw 12 (by kernel_rfl)
      refine ite_not (wanted_not rfl (yielded_of (t := 60) (by kernel_rfl) eg)) ?_
      exact hK _ x rfl (Below.refl _ _) (fun h => by cases h)
    · simp only [wpOp, List.getElem?_toArray, List.getElem?_cons_succ, List.getElem?_cons_zero]
      have eg : a.tmps.getD 60 undef = .bool true := hw 12 (by kernel_rfl)
      refine ite_not (wanted_not rfl (yielded_of (t := 60) (by kernel_rfl) eg)) ?_
      exact hK _ x rfl (Below.refl _ _) (fun h => by cases h)
    · simp only [wpOp, List.getElem?_toArray, List.getElem?_cons_succ, List.getElem?_cons_zero]
      have eg : a.tmps.getD 60 undef = .bool true := hw 12 (by kernel_rfl)
      refine ite_not (wanted_not rfl (yielded_of (t := 60) (by kernel_rfl) eg)) ?_
      exact hK _ x rfl (Below.refl _ _) (fun h => by cases h)
    · simp only [wpOp, List.getElem?_toArray, List.getElem?_cons_succ, List.getElem?_cons_zero]
      have eg : a.tmps.getD 63 undef = undef := hw 15 (by kernel_rfl)
      refine ite_not (wanted_none rfl (yielded_none (t := 63) (by kernel_rfl) eg)) ?_
      exact hK _ x rfl (Below.refl _ _) (fun h => by cases h)
    · simp only [wpOp, List.getElem?_toArray, List.getElem?_cons_succ, List.getElem?_cons_zero]
      have eg : a.tmps.getD 63 undef = undef := hw 15 (by kernel_rfl)
      refine ite_not (wanted_none rfl (yielded_none (t := 63) (by kernel_rfl) eg)) ?_
      exact hK _ x rfl (Below.refl _ _) (fun h => by cases h)
    · simp only [wpOp, List.getElem?_toArray, List.getElem?_cons_succ, List.getElem?_cons_zero]
      have eg : a.tmps.getD 60 undef = .bool true := hw 12 (by kernel_rfl)
      refine ite_not (wanted_not rfl (yielded_of (t := 60) (by kernel_rfl) eg)) ?_
      exact hK _ x rfl (Below.refl _ _) (fun h => by cases h)
    · simp only [wpOp, List.getElem?_toArray, List.getElem?_cons_succ, List.getElem?_cons_zero]
      have eg : a.tmps.getD 54 undef = .bool true := hw 6 (by kernel_rfl)
      refine ite_yes (wanted_yes rfl (yielded_of (t := 54) (by kernel_rfl) eg)) ?_
      clear eg
      refine Or.inl ?_
      have e0 : a.tmps.getD 60 undef = .bool true := hw 12 (by kernel_rfl)
      have e1 : a.tmps.getD 66 undef = undef := hw 18 (by kernel_rfl)
      clear hw hF
      simp only [Oper.wp, execOp]
      go_simp
      exact hK _ x (by first | rfl | simp) (Below.refl _ _) (fun h => by cases h)
    · simp only [wpOp, List.getElem?_toArray, List.getElem?_cons_succ, List.getElem?_cons_zero, Region.wanted, if_true]
      refine Or.inl ?_
      have e0 : a.tmps.getD 54 undef = .bool true := hw 6 (by kernel_rfl)
      have e1 : a.tmps.getD 67 undef = .bool true := hw 19 (by kernel_rfl)
      clear hw hF
      simp only [Oper.wp, execOp]
      go_simp
      exact hK _ x (by first | rfl | simp) (Below.refl _ _) (fun h => by cases h)
    · simp only [wpOp, List.getElem?_toArray, List.getElem?_cons_succ, List.getElem?_cons_zero, Region.wanted, if_true]
      refine Or.inl ?_
      have e0 : a.tmps.getD 68 undef = .bool true := hw 20 (by kernel_rfl)
      clear hw hF
      simp only [Oper.wp, execOp]
      go_simp
      exact hK _ x (by first | rfl | simp) (Below.refl _ _) (fun h => by cases h)
    · simp only [wpOp, List.getElem?_toArray, List.getElem?_cons_succ, List.getElem?_cons_zero]
      have eg : a.tmps.getD 69 undef = .bool true := hw 21 (by kernel_rfl)
      refine ite_yes (wanted_yes rfl (yielded_of (t := 69) (by kernel_rfl) eg)) ?_
      clear eg
      refine Or.inl ?_
      have e0 : a.eval (.tmp 16) = .bool true := hF.2.2 16 (by decide)
      clear hw hF
      simp only [Oper.wp, execOp]
      rw [e0]
      go_simp
      exact hK _ x (by first | rfl | simp) (Below.refl _ _) (fun h => by cases h)
    · simp only [wpOp, List.getElem?_toArray, List.getElem?_cons_succ, List.getElem?_cons_zero, Region.wanted, if_true]
      refine Or.inl ?_
      have e0 : a.tmps.getD 69 undef = .bool true := hw 21 (by kernel_rfl)
      have e1 : a.tmps.getD 70 undef = .bool true := hw 22 (by kernel_rfl)
      clear hw hF
      simp only [Oper.wp, execOp]
      go_simp
      exact hK _ x (by first | rfl | simp) (Below.refl _ _) (fun h => by cases h)
    · simp only [wpOp, List.getElem?_toArray, List.getElem?_cons_succ, List.getElem?_cons_zero, Region.wanted, if_true]
      refine Or.inl ?_
      have e0 : a.tmps.getD 71 undef = .bool true := hw 23 (by kernel_rfl)
      clear hw hF
      simp only [Oper.wp, execOp]
      go_simp
      exact hK _ x (by first | rfl | simp) (Below.refl _ _) (fun h => by cases h)
    · simp only [wpOp, List.getElem?_toArray, List.getElem?_cons_succ, List.getElem?_cons_zero]
      have eg : a.tmps.getD 72 undef = .bool true := hw 24 (by kernel_rfl)
      refine ite_yes (wanted_yes rfl (yielded_of (t := 72) (by kernel_rfl) eg)) ?_
      clear eg
      refine Or.inl ?_
      have e0 : a.eval (.tmp 11) = .string ⟨rt.toArray⟩ := hF.2.2 11 (by decide)
      clear hw hF
      simp only [Oper.wp, execOp]
      rw [e0]
      go_simp
      exact hK _ x (by first | rfl | simp) (Below.refl _ _) (fun h => by cases h)
    · simp only [wpOp, List.getElem?_toArray, List.getElem?_cons_succ, List.getElem?_cons_zero]
      have eg : a.tmps.getD 72 undef = .bool true := hw 24 (by kernel_rfl)
      refine ite_yes (wanted_yes rfl (yielded_of (t := 72) (by kernel_rfl) eg)) ?_
      clear eg
      refine Or.inl ?_
      have e0 : a.eval (.tmp 14) = .string ⟨rt.toArray⟩ := hF.2.2 14 (by decide)
      clear hw hF
      simp only [Oper.wp, execOp]
      rw [e0]
      go_simp
      exact hK _ x (by first | rfl | simp) (Below.refl _ _) (fun h => by cases h)
    · simp only [wpOp, List.getElem?_toArray, List.getElem?_cons_succ, List.getElem?_cons_zero]
      have eg : a.tmps.getD 72 undef = .bool true := hw 24 (by kernel_rfl)
      refine ite_yes (wanted_yes rfl (yielded_of (t := 72) (by kernel_rfl) eg)) ?_
      clear eg
      refine Or.inl ?_
      have e0 : a.tmps.getD 73 undef = .string ⟨rt.toArray⟩ := hw 25 (by kernel_rfl)
      have e1 : a.tmps.getD 74 undef = .string ⟨rt.toArray⟩ := hw 26 (by kernel_rfl)
      clear hw hF
      simp only [Oper.wp, execOp]
      go_simp
      exact hK _ x (by first | rfl | simp) (Below.refl _ _) (fun h => by cases h)
    · simp only [wpOp, List.getElem?_toArray, List.getElem?_cons_succ, List.getElem?_cons_zero, Region.wanted, if_true]
      refine Or.inl ?_
      have e0 : a.tmps.getD 72 undef = .bool true := hw 24 (by kernel_rfl)
      have e1 : a.tmps.getD 75 undef = .bool true := hw 27 (by kernel_rfl)
      clear hw hF
      simp only [Oper.wp, execOp]
      go_simp
      exact hK _ x (by first | rfl | simp) (Below.refl _ _) (fun h => by cases h)
    · simp only [wpOp, List.getElem?_toArray, List.getElem?_cons_succ, List.getElem?_cons_zero, Region.wanted, if_true]
      refine Or.inl ?_
      have e0 : a.tmps.getD 76 undef = .bool true := hw 28 (by kernel_rfl)
      clear hw hF
      simp only [Oper.wp, execOp]
      go_simp
      exact hK _ x (by first | rfl | simp) (Below.refl _ _) (fun h => by cases h)
    · simp only [wpOp, List.getElem?_toArray, List.getElem?_cons_succ, List.getElem?_cons_zero]
      have eg : a.tmps.getD 77 undef = .bool true := hw 29 (by kernel_rfl)
      refine ite_yes (wanted_yes rfl (yielded_of (t := 77) (by kernel_rfl) eg)) ?_
      clear eg
      refine Or.inl ?_
      have e0 : a.eval (.tmp 15) = .bool true := hF.2.2 15 (by decide)
      clear hw hF
      simp only [Oper.wp, execOp]
      rw [e0]
      go_simp
      exact hK _ x (by first | rfl | simp) (Below.refl _ _) (fun h => by cases h)
    · simp only [wpOp, List.getElem?_toArray, List.getElem?_cons_succ, List.getElem?_cons_zero]
      have eg : a.tmps.getD 77 undef = .bool true := hw 29 (by kernel_rfl)
      refine ite_yes (wanted_yes rfl (yielded_of (t := 77) (by kernel_rfl) eg)) ?_
      clear eg
      refine Or.inl ?_
      have e0 : a.tmps.getD 78 undef = .bool true := hw 30 (by kernel_rfl)
      clear hw hF
      simp only [Oper.wp, execOp]
      go_simp
      exact hK _ x (by first | rfl | simp) (Below.refl _ _) (fun h => by cases h)
    · simp only [wpOp, List.getElem?_toArray, List.getElem?_cons_succ, List.getElem?_cons_zero]
      have eg : a.tmps.getD 79 undef = .bool true := hw 31 (by kernel_rfl)
      refine ite_yes (wanted_yes rfl (yielded_of (t := 79) (by kernel_rfl) eg)) ?_
      clear eg
      refine Or.inl ?_
      have e0 : a.eval (.tmp 12) = .int .i64 0 := hF.2.2 12 (by decide)
      clear hw hF
      simp only [Oper.wp, execOp]
      rw [e0]
      go_simp
      exact hK _ x (by first | rfl | simp) (Below.refl _ _) (fun h => by cases h)
    · simp only [wpOp, List.getElem?_toArray, List.getElem?_cons_succ, List.getElem?_cons_zero]
      have eg : a.tmps.getD 79 undef = .bool true := hw 31 (by kernel_rfl)
      refine ite_yes (wanted_yes rfl (yielded_of (t := 79) (by kernel_rfl) eg)) ?_
      clear eg
      refine Or.inl ?_
      have e0 : a.tmps.getD 80 undef = .int .i64 0 := hw 32 (by kernel_rfl)
      clear hw hF
      simp only [Oper.wp, execOp]
      go_simp
      exact hK _ x (by first | rfl | simp) (Below.refl _ _) (fun h => by cases h)
    · simp only [wpOp, List.getElem?_toArray, List.getElem?_cons_succ, List.getElem?_cons_zero]
      have eg : a.tmps.getD 77 undef = .bool true := hw 29 (by kernel_rfl)
      refine ite_yes (wanted_yes rfl (yielded_of (t := 77) (by kernel_rfl) eg)) ?_
      clear eg
      refine Or.inl ?_
      have e0 : a.tmps.getD 79 undef = .bool true := hw 31 (by kernel_rfl)
      have e1 : a.tmps.getD 81 undef = .bool true := hw 33 (by kernel_rfl)
      clear hw hF
      simp only [Oper.wp, execOp]
      go_simp
      exact hK _ x (by first | rfl | simp) (Below.refl _ _) (fun h => by cases h)
    · simp only [wpOp, List.getElem?_toArray, List.getElem?_cons_succ, List.getElem?_cons_zero]
      have eg : a.tmps.getD 77 undef = .bool true := hw 29 (by kernel_rfl)
      refine ite_yes (wanted_yes rfl (yielded_of (t := 77) (by kernel_rfl) eg)) ?_
      clear eg
      refine Or.inl ?_
      have e0 : a.tmps.getD 82 undef = .bool true := hw 34 (by kernel_rfl)
      clear hw hF
      simp only [Oper.wp, execOp]
      go_simp
      exact hK _ x (by first | rfl | simp) (Below.refl _ _) (fun h => by cases h)
    · simp only [wpOp, List.getElem?_toArray, List.getElem?_cons_succ, List.getElem?_cons_zero]
      have eg : a.tmps.getD 83 undef = .bool true := hw 35 (by kernel_rfl)
      refine ite_not (wanted_not rfl (yielded_of (t := 83) (by kernel_rfl) eg)) ?_
      exact hK _ x rfl (Below.refl _ _) (fun h => by cases h)
    · simp only [wpOp, List.getElem?_toArray, List.getElem?_cons_succ, List.getElem?_cons_zero]
      have eg : a.tmps.getD 83 undef = .bool true := hw 35 (by kernel_rfl)
      refine ite_not (wanted_not rfl (yielded_of (t := 83) (by kernel_rfl) eg)) ?_
      exact hK _ x rfl (Below.refl _ _) (fun h => by cases h)
    · simp only [wpOp, List.getElem?_toArray, List.getElem?_cons_succ, List.getElem?_cons_zero]
      have eg : a.tmps.getD 83 undef = .bool true := hw 35 (by kernel_rfl)
      refine ite_not (wanted_not rfl (yielded_of (t := 83) (by kernel_rfl) eg)) ?_
      exact hK _ x rfl (Below.refl _ _) (fun h => by cases h)
    · simp only [wpOp, List.getElem?_toArray, List.getElem?_cons_succ, List.getElem?_cons_zero]
      have eg : a.tmps.getD 86 undef = undef := hw 38 (by kernel_rfl)
      refine ite_not (wanted_none rfl (yielded_none (t := 86) (by kernel_rfl) eg)) ?_
      exact hK _ x rfl (Below.refl _ _) (fun h => by cases h)
    · simp only [wpOp, List.getElem?_toArray, List.getElem?_cons_succ, List.getElem?_cons_zero]
      have eg : a.tmps.getD 86 undef = undef := hw 38 (by kernel_rfl)
      refine ite_not (wanted_none rfl (yielded_none (t := 86) (by kernel_rfl) eg)) ?_
      exact hK _ x rfl (Below.refl _ _) (fun h => by cases h)
    · simp only [wpOp, List.getElem?_toArray, List.getElem?_cons_succ, List.getElem?_cons_zero]
      have eg : a.tmps.getD 83 undef = .bool true := hw 35 (by kernel_rfl)
      refine ite_not (wanted_not rfl (yielded_of (t := 83) (by kernel_rfl) eg)) ?_
      exact hK _ x rfl (Below.refl _ _) (fun h => by cases h)
    · simp only [wpOp, List.getElem?_toArray, List.getElem?_cons_succ, List.getElem?_cons_zero]
      have eg : a.tmps.getD 77 undef = .bool true := hw 29 (by kernel_rfl)
      refine ite_yes (wanted_yes rfl (yielded_of (t := 77) (by kernel_rfl) eg)) ?_
      clear eg
      refine Or.inl ?_
      have e0 : a.tmps.getD 83 undef = .bool true := hw 35 (by kernel_rfl)
      have e1 : a.tmps.getD 89 undef = undef := hw 41 (by kernel_rfl)
      clear hw hF
      simp only [Oper.wp, execOp]
      go_simp
      exact hK _ x (by first | rfl | simp) (Below.refl _ _) (fun h => by cases h)
    · simp only [wpOp, List.getElem?_toArray, List.getElem?_cons_succ, List.getElem?_cons_zero, Region.wanted, if_true]
      refine Or.inl ?_
      have e0 : a.tmps.getD 77 undef = .bool true := hw 29 (by kernel_rfl)
      have e1 : a.tmps.getD 90 undef = .bool true := hw 42 (by kernel_rfl)
      clear hw hF
      simp only [Oper.wp, execOp]
      go_simp
      exact hK _ x (by first | rfl | simp) (Below.refl _ _) (fun h => by cases h)
    · simp only [wpOp, List.getElem?_toArray, List.getElem?_cons_succ, List.getElem?_cons_zero, Region.wanted, if_true]
      refine Or.inl ?_
      have e0 : a.tmps.getD 91 undef = .bool true := hw 43 (by kernel_rfl)
      clear hw hF
      simp only [Oper.wp, execOp]
      go_simp
      exact hK _ x (by first | rfl | simp) (Below.refl _ _) (fun h => by cases h)
    · simp only [wpOp, List.getElem?_toArray, List.getElem?_cons_succ, List.getElem?_cons_zero]
      have eg : a.tmps.getD 92 undef = .bool true := hw 44 (by kernel_rfl)
      refine ite_yes (wanted_yes rfl (yielded_of (t := 92) (by kernel_rfl) eg)) ?_
      clear eg
      refine Or.inl ?_
      have e0 : a.eval (.tmp 17) = .pointer (some ⟨w7.heap.size, 0, none⟩) := hF.2.2 17 (by decide)
      have f0 := row_cell Ry_8.out hb 0
      have f1 := row_cell Ry_8.out hb 1
      simp only [List.getElem?_toArray, List.getElem?_cons_succ, List.getElem?_cons_zero] at f0 f1
      clear hw hF
      simp only [Oper.wp, execOp]
      rw [e0]
      go_simp
      exact hK _ x (by first | rfl | simp) (Below.refl _ _) (fun h => by cases h)
    · simp only [wpOp, List.getElem?_toArray, List.getElem?_cons_succ, List.getElem?_cons_zero]
      have eg : a.tmps.getD 92 undef = .bool true := hw 44 (by kernel_rfl)
      refine ite_yes (wanted_yes rfl (yielded_of (t := 92) (by kernel_rfl) eg)) ?_
      clear eg
      refine Or.inl ?_
      have e0 : a.tmps.getD 93 undef = .agg #[.bool sx, .slice Ax tx.length cx] := hw 45 (by kernel_rfl)
      clear hw hF
      simp only [Oper.wp, execOp]
      go_simp
      refine (ztext_z ((L8.out.step hb).get (A := Ax) (c := cx) (xs := tx) (by simp)) HVx.out (Nat.le_trans lbx12.out (by omega)) (p10_below HT.out (L8.out.step hb).1) HTT.out).mono ?_
      rintro e y ⟨rfl, hbb⟩
      exact hK _ y rfl hbb (fun h => by cases h)
    · simp only [wpOp, List.getElem?_toArray, List.getElem?_cons_succ, List.getElem?_cons_zero]
      have eg : a.tmps.getD 92 undef = .bool true := hw 44 (by kernel_rfl)
      refine ite_yes (wanted_yes rfl (yielded_of (t := 92) (by kernel_rfl) eg)) ?_
      clear eg
      refine Or.inl ?_
      have e0 : a.eval (.tmp 17) = .pointer (some ⟨w7.heap.size, 0, none⟩) := hF.2.2 17 (by decide)
      have f0 := row_cell Ry_8.out hb 0
      have f1 := row_cell Ry_8.out hb 1
      simp only [List.getElem?_toArray, List.getElem?_cons_succ, List.getElem?_cons_zero] at f0 f1
      clear hw hF
      simp only [Oper.wp, execOp]
      rw [e0]
      go_simp
      exact hK _ x (by first | rfl | simp) (Below.refl _ _) (fun h => by cases h)
    · simp only [wpOp, List.getElem?_toArray, List.getElem?_cons_succ, List.getElem?_cons_zero]
      have eg : a.tmps.getD 92 undef = .bool true := hw 44 (by kernel_rfl)
      refine ite_yes (wanted_yes rfl (yielded_of (t := 92) (by kernel_rfl) eg)) ?_
      clear eg
      refine Or.inl ?_
      have e0 : a.tmps.getD 95 undef = .agg #[.bool sx, .slice Ax tx.length cx] := hw 47 (by kernel_rfl)
      clear hw hF
      simp only [Oper.wp, execOp]
      go_simp
      refine (rtext_z ((L8.out.step hb).get (A := Ax) (c := cx) (xs := tx) (by simp)) HVx.out (Nat.le_trans lbx12.out (by omega)) HTT.out).mono ?_
      rintro e y ⟨rfl, hbb⟩
      exact hK _ y rfl hbb (fun h => by cases h)
    · simp only [wpOp, List.getElem?_toArray, List.getElem?_cons_succ, List.getElem?_cons_zero]
      have eg : a.tmps.getD 92 undef = .bool true := hw 44 (by kernel_rfl)
      refine ite_yes (wanted_yes rfl (yielded_of (t := 92) (by kernel_rfl) eg)) ?_
      clear eg
      refine Or.inl ?_
      have e0 : a.tmps.getD 94 undef = .string ⟨tt.toArray⟩ := hw 46 (by kernel_rfl)
      have e1 : a.tmps.getD 96 undef = .string ⟨tt.toArray⟩ := hw 48 (by kernel_rfl)
      clear hw hF
      simp only [Oper.wp, execOp]
      go_simp
      exact hK _ x (by first | rfl | simp) (Below.refl _ _) (fun h => by cases h)
    · simp only [wpOp, List.getElem?_toArray, List.getElem?_cons_succ, List.getElem?_cons_zero, Region.wanted, if_true]
      refine Or.inl ?_
      have e0 : a.tmps.getD 92 undef = .bool true := hw 44 (by kernel_rfl)
      have e1 : a.tmps.getD 97 undef = .bool true := hw 49 (by kernel_rfl)
      clear hw hF
      simp only [Oper.wp, execOp]
      go_simp
      exact hK _ x (by first | rfl | simp) (Below.refl _ _) (fun h => by cases h)
  · intro a x hF hb hR _
    have e0 : a.tmps.getD 48 undef = .bool true := hR 0 (by decide)
    have e1 : a.tmps.getD 49 undef = .bool true := hR 1 (by decide)
    have e2 : a.tmps.getD 50 undef = .string ⟨bt.toArray⟩ := hR 2 (by decide)
    have e3 : a.tmps.getD 51 undef = .string ⟨bt.toArray⟩ := hR 3 (by decide)
    have e4 : a.tmps.getD 52 undef = .bool true := hR 4 (by decide)
    have e5 : a.tmps.getD 53 undef = .bool true := hR 5 (by decide)
    have e6 : a.tmps.getD 54 undef = .bool true := hR 6 (by decide)
    have e7 : a.tmps.getD 55 undef = .bool true := hR 7 (by decide)
    have e8 : a.tmps.getD 56 undef = .bool true := hR 8 (by decide)
    have e9 : a.tmps.getD 57 undef = .int .i64 0 := hR 9 (by decide)
    have e10 : a.tmps.getD 58 undef = .bool true := hR 10 (by decide)
    have e11 : a.tmps.getD 59 undef = .bool true := hR 11 (by decide)
    have e12 : a.tmps.getD 60 undef = .bool true := hR 12 (by decide)
    have e13 : a.tmps.getD 61 undef = undef := hR 13 (by decide)
    have e14 : a.tmps.getD 62 undef = undef := hR 14 (by decide)
    have e15 : a.tmps.getD 63 undef = undef := hR 15 (by decide)
    have e16 : a.tmps.getD 64 undef = undef := hR 16 (by decide)
    have e17 : a.tmps.getD 65 undef = undef := hR 17 (by decide)
    have e18 : a.tmps.getD 66 undef = undef := hR 18 (by decide)
    have e19 : a.tmps.getD 67 undef = .bool true := hR 19 (by decide)
    have e20 : a.tmps.getD 68 undef = .bool true := hR 20 (by decide)
    have e21 : a.tmps.getD 69 undef = .bool true := hR 21 (by decide)
    have e22 : a.tmps.getD 70 undef = .bool true := hR 22 (by decide)
    have e23 : a.tmps.getD 71 undef = .bool true := hR 23 (by decide)
    have e24 : a.tmps.getD 72 undef = .bool true := hR 24 (by decide)
    have e25 : a.tmps.getD 73 undef = .string ⟨rt.toArray⟩ := hR 25 (by decide)
    have e26 : a.tmps.getD 74 undef = .string ⟨rt.toArray⟩ := hR 26 (by decide)
    have e27 : a.tmps.getD 75 undef = .bool true := hR 27 (by decide)
    have e28 : a.tmps.getD 76 undef = .bool true := hR 28 (by decide)
    have e29 : a.tmps.getD 77 undef = .bool true := hR 29 (by decide)
    have e30 : a.tmps.getD 78 undef = .bool true := hR 30 (by decide)
    have e31 : a.tmps.getD 79 undef = .bool true := hR 31 (by decide)
    have e32 : a.tmps.getD 80 undef = .int .i64 0 := hR 32 (by decide)
    have e33 : a.tmps.getD 81 undef = .bool true := hR 33 (by decide)
    have e34 : a.tmps.getD 82 undef = .bool true := hR 34 (by decide)
    have e35 : a.tmps.getD 83 undef = .bool true := hR 35 (by decide)
    have e36 : a.tmps.getD 84 undef = undef := hR 36 (by decide)
    have e37 : a.tmps.getD 85 undef = undef := hR 37 (by decide)
    have e38 : a.tmps.getD 86 undef = undef := hR 38 (by decide)
    have e39 : a.tmps.getD 87 undef = undef := hR 39 (by decide)
    have e40 : a.tmps.getD 88 undef = undef := hR 40 (by decide)
    have e41 : a.tmps.getD 89 undef = undef := hR 41 (by decide)
    have e42 : a.tmps.getD 90 undef = .bool true := hR 42 (by decide)
    have e43 : a.tmps.getD 91 undef = .bool true := hR 43 (by decide)
    have e44 : a.tmps.getD 92 undef = .bool true := hR 44 (by decide)
    have e45 : a.tmps.getD 93 undef = .agg #[.bool sx, .slice Ax tx.length cx] := hR 45 (by decide)
    have e46 : a.tmps.getD 94 undef = .string ⟨tt.toArray⟩ := hR 46 (by decide)
    have e47 : a.tmps.getD 95 undef = .agg #[.bool sx, .slice Ax tx.length cx] := hR 47 (by decide)
    have e48 : a.tmps.getD 96 undef = .string ⟨tt.toArray⟩ := hR 48 (by decide)
    have e49 : a.tmps.getD 97 undef = .bool true := hR 49 (by decide)
    have e50 : a.tmps.getD 98 undef = .bool true := hR 50 (by decide)
    rw [hF.fold (by kernel_rfl)]
    simp only [List.foldl_cons, List.foldl_nil, e0, e1, e2, e3, e4, e5, e6, e7, e8, e9, e10, e11, e12, e13, e14, e15, e16, e17, e18, e19, e20, e21, e22, e23, e24, e25, e26, e27, e28, e29, e30, e31, e32, e33, e34, e35, e36, e37, e38, e39, e40, e41, e42, e43, e44, e45, e46, e47, e48, e49, e50]
    simp only [Act.put, List.setIfInBounds_toArray, List.set_cons_zero, List.set_cons_succ]
    change wpOps _ _ _ [51] _ _
    simp only [wpOps_cons]
    clear e0 e1 e2 e3 e4 e5 e6 e7 e8 e9 e10 e11 e12 e13 e14 e15 e16 e17 e18 e19 e20 e21 e22 e23 e24 e25 e26 e27 e28 e29 e30 e31 e32 e33 e34 e35 e36 e37 e38 e39 e40 e41 e42 e43 e44 e45 e46 e47 e48 e49 e50 hR hF
    have HE := Lib.hid (L8.out.step hb)
    simp only [wpOp, List.getElem?_toArray, List.getElem?_cons_succ, List.getElem?_cons_zero, Region.wanted, if_true]
    refine Or.inl ?_
    simp only [Oper.wp, execOp]
    go_simp
    try simp only [wpOps]
    go_wp2
    go_ret
    exact ⟨rfl, HE.out.1⟩
end Go.Proofs.YthgkdpfkaobgoaaDoor
end
