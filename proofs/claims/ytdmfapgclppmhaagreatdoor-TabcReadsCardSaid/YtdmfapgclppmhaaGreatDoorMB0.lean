import Derived.Test.YtdmfapgclppmhaaGreatDoorProg
import Derived.WalkKit
import Derived.WalkSpells
import Derived.WalkLawsBesides
import Derived.Outline
import Derived.Lib.Hide
import Derived.Deep.QuietTactic
import Derived.BigQuiet
import Derived.BigGuardPart
import Derived.StillTailTactics
import Derived.Deep.Draws
import Derived.Deep.RegionHeld3
import Derived.BigRegion
import Derived.Lib.Strings
import Derived.Lib.Slices
import Derived.Lib.Small
import Derived.Lib.Walk
import Derived.Lib.BitFns
import Derived.Laws.BitsAllLaws
import Derived.Laws.BitsLemmas
import Derived.Laws.OwnMore
import Derived.Deep.OwnRows
import Derived.Deep.RegionLaw
import Derived.Deep.DeepCutAuto
import Derived.RegionTactic
import Derived.Maps.AppendAt
import Derived.Deep.AppendLies
section
namespace Go.Proofs.YtdmfapgclppmhaaGreatDoor
open Go.RowKit
theorem gAy {α : Type} {xs : List α} {i : Nat} : xs.toArray[i]? = xs[i]? := List.getElem?_toArray
theorem gSy {α : Type} {a : α} {l : List α} {i : Nat} : (a :: l)[i + 1]? = l[i]? := List.getElem?_cons_succ
theorem gZy {α : Type} {a : α} {l : List α} : (a :: l)[0]? = some a := List.getElem?_cons_zero
theorem qH {p : Prop} (h : p) : Hid p := Lib.hid h
end Go.Proofs.YtdmfapgclppmhaaGreatDoor
end
set_option maxHeartbeats 16000000
set_option maxRecDepth 100000
section
namespace Go.Proofs.YtdmfapgclppmhaaGreatDoor
def val : List Nat → Nat
  | [] => 0
  | x :: r => x + 4294967296 * val r
def ok32 (xs : List Nat) : Prop := ∀ x ∈ xs, x < 4294967296
def digs (n : Nat) : List Nat := if h : n = 0 then [] else n % 4294967296 :: digs (n / 4294967296)
termination_by n
decreasing_by omega
theorem digs_zero : digs 0 = [] := by rw [digs]; simp
theorem digs_pos {n : Nat} (h : n ≠ 0) : digs n = n % 4294967296 :: digs (n / 4294967296) := by rw [digs]; simp [h]
theorem val_digs (n : Nat) : val (digs n) = n := by
  induction n using Nat.strongRecOn with
  | ind n ih =>
    by_cases h : n = 0
    · subst h; rw [digs_zero]; rfl
    · rw [digs_pos h, val, ih (n / 4294967296) (by omega)]; omega
theorem ok_digs (n : Nat) : ok32 (digs n) := by
  induction n using Nat.strongRecOn with
  | ind n ih =>
    by_cases h : n = 0
    · subst h; rw [digs_zero]; intro x hx; cases hx
    · rw [digs_pos h]; intro x hx
      rcases List.mem_cons.1 hx with rfl | hx
      · omega
      · exact ih _ (by omega) x hx
theorem digs_inj {a b : Nat} (h : digs a = digs b) : a = b := by rw [← val_digs a, h, val_digs]
theorem val_append (xs ys : List Nat) : val (xs ++ ys) = val xs + 4294967296 ^ xs.length * val ys := by
  induction xs with
  | nil => simp [val]
  | cons x r ih => simp only [List.cons_append, val, ih, List.length_cons, Nat.pow_succ]; rw [Nat.mul_add, ← Nat.mul_assoc, Nat.mul_comm 4294967296 (_ ^ _), Nat.add_assoc]
theorem val_lt {xs : List Nat} (h : ok32 xs) : val xs < 4294967296 ^ xs.length := by
  induction xs with
  | nil => simp [val]
  | cons x r ih =>
    have h1 : x < 4294967296 := h x (by simp)
    have h2 := ih (fun y hy => h y (by simp [hy]))
    simp only [val, List.length_cons, Nat.pow_succ]
    omega
theorem digs_val {xs : List Nat} (h : ok32 xs) (hl : ∀ x, xs.getLast? = some x → x ≠ 0) : digs (val xs) = xs := by
  induction xs with
  | nil => exact digs_zero
  | cons x r ih =>
    have h1 : x < 4294967296 := h x (by simp)
    have h2 : ok32 r := fun y hy => h y (by simp [hy])
    have hr : digs (val r) = r := by
      apply ih h2
      intro y hy
      apply hl
      cases r with
      | nil => simp at hy
      | cons z s => simpa using hy
    have hne : val (x :: r) ≠ 0 := by
      intro h0
      simp only [val] at h0
      have hx0 : x = 0 := by omega
      have hr0 : val r = 0 := by omega
      rw [hr0, digs_zero] at hr
      subst hr
      exact hl x (by simp) hx0
    rw [digs_pos hne]
    simp only [val]
    have e1 : (x + 4294967296 * val r) % 4294967296 = x := by omega
    have e2 : (x + 4294967296 * val r) / 4294967296 = val r := by omega
    rw [e1, e2, hr]
theorem val_zeros (n : Nat) : val (List.replicate n 0) = 0 := by
  induction n with
  | zero => rfl
  | succ n ih => simp [List.replicate_succ, val, ih]
theorem digs_take {xs : List Nat} {n : Nat} (h : ok32 xs) (hn : n ≤ xs.length) (hz : ∀ j, n ≤ j → j < xs.length → xs[j]?.getD 0 = 0) (hl : 0 < n → xs[n - 1]?.getD 0 ≠ 0) :
    xs.take n = digs (val xs) := by
  have e0 : xs.drop n = List.replicate (xs.length - n) 0 := by
    apply List.ext_getElem
    · simp
    · intro j h1 h2
      simp only [List.getElem_drop, List.getElem_replicate]
      have := hz (n + j) (by omega) (by simp at h1; omega)
      rw [List.getElem?_eq_getElem (by simp at h1; omega)] at this
      simpa using this
  have e1 : val xs = val (xs.take n) := by
    conv => lhs; rw [← List.take_append_drop n xs, val_append, e0, val_zeros]
    simp
  rw [e1, digs_val]
  · intro x hx; exact h x (List.mem_of_mem_take hx)
  · intro x hx
    rw [List.getLast?_eq_getElem?] at hx
    have hpos : 0 < n := by
      rcases Nat.eq_zero_or_pos n with h0 | h0
      · subst h0; simp at hx
      · exact h0
    have := hl hpos
    rw [List.length_take, Nat.min_eq_left hn, List.getElem?_take] at hx
    rw [if_pos (by omega)] at hx
    rw [hx] at this
    simpa using this
theorem digs_len_lt : ∀ {m n : Nat}, n < 4294967296 ^ m → (digs n).length ≤ m := by
  intro m
  induction m with
  | zero =>
    intro n hn
    have : n = 0 := by simp at hn; omega
    subst this; rw [digs_zero]; simp
  | succ m ih =>
    intro n hn
    by_cases h0 : n = 0
    · subst h0; rw [digs_zero]; simp
    · rw [digs_pos h0]
      have := ih (n := n / 4294967296) (by rw [Nat.div_lt_iff_lt_mul (by omega)]; rw [Nat.pow_succ] at hn; omega)
      simp; omega
theorem digs_len_le {xs : List Nat} (h : ok32 xs) : (digs (val xs)).length ≤ xs.length := digs_len_lt (val_lt h)
def blen (n : Nat) : Nat := if h : n = 0 then 0 else 1 + blen (n / 2)
termination_by n
decreasing_by omega
theorem blen_zero : blen 0 = 0 := by rw [blen]; simp
theorem blen_pos {n : Nat} (h : n ≠ 0) : blen n = 1 + blen (n / 2) := by rw [blen]; simp [h]
theorem blen_shift : ∀ (k n : Nat), 2 ^ k ≤ n → blen n = k + blen (n / 2 ^ k) := by
  intro k
  induction k with
  | zero => intro n _; simp
  | succ k ih =>
    intro n h
    have h2 : 2 ^ (k + 1) = 2 * 2 ^ k := by rw [Nat.pow_succ, Nat.mul_comm]
    have hp : 0 < 2 ^ k := Nat.pow_pos (by omega)
    rw [blen_pos (by omega : n ≠ 0), ih (n / 2) (by omega), Nat.div_div_eq_div_mul, h2]
    omega
theorem blen_val : ∀ (xs : List Nat), ok32 xs → ∀ d, xs.getLast? = some d → d ≠ 0 → blen (val xs) = 32 * (xs.length - 1) + blen d := by
  intro xs
  induction xs with
  | nil => intro _ d h; simp at h
  | cons x r ih =>
    intro hk d h hd
    have hx : x < 4294967296 := hk x (by simp)
    rcases r with _ | ⟨y, s⟩
    · simp at h; subst h; simp [val]
    · have h' : (y :: s).getLast? = some d := by simpa using h
      have hr := ih (fun z hz => hk z (by simp [hz])) d h' hd
      have hpos : val (y :: s) ≠ 0 := by
        intro h0
        have := digs_val (xs := y :: s) (fun z hz => hk z (by simp [hz])) (fun z hz => by rw [h'] at hz; injection hz with hz; omega)
        rw [h0, digs_zero] at this
        simp at this
      have e : val (x :: y :: s) = x + 4294967296 * val (y :: s) := rfl
      rw [e, blen_shift 32 _ (by omega)]
      have e2 : (x + 4294967296 * val (y :: s)) / 2 ^ 32 = val (y :: s) := by omega
      rw [e2, hr]
      simp only [List.length_cons]
      omega
theorem last_digs {n d : Nat} (h : (digs n).getLast? = some d) : d ≠ 0 := by
  induction n using Nat.strongRecOn with
  | ind n ih =>
    by_cases h0 : n = 0
    · subst h0; rw [digs_zero] at h; simp at h
    · rw [digs_pos h0] at h
      by_cases h1 : n / 4294967296 = 0
      · rw [h1, digs_zero] at h; simp at h; omega
      · have e : (digs (n / 4294967296)).getLast? = some d := by
          rw [List.getLast?_cons] at h
          rcases hl : (digs (n / 4294967296)).getLast? with _ | z
          · rw [digs_pos h1] at hl; simp at hl
          · rw [hl] at h; simpa using h
        exact ih _ (by omega) e
theorem blen_digs (v : Nat) (h : v ≠ 0) : blen v = 32 * ((digs v).length - 1) + blen ((digs v)[(digs v).length - 1]?.getD 0) := by
  have hne : (digs v).getLast? = (digs v)[(digs v).length - 1]? := List.getLast?_eq_getElem?
  rcases hd : (digs v)[(digs v).length - 1]? with _ | d
  · rw [digs_pos h] at hd; simp at hd
  · have := blen_val (digs v) (ok_digs v) d (by rw [hne, hd]) (last_digs (by rw [hne, hd]))
    rw [val_digs] at this
    simpa using this
theorem digs_nil {v : Nat} : (digs v).length = 0 ↔ v = 0 := by
  constructor
  · intro h; by_cases h0 : v = 0
    · exact h0
    · rw [digs_pos h0] at h; simp at h
  · rintro rfl; rw [digs_zero]; rfl
theorem val_bit : ∀ (xs : List Nat) (k r : Nat), ok32 xs → r < 32 → (val xs).testBit (32 * k + r) = (xs[k]?.getD 0).testBit r := by
  intro xs
  induction xs with
  | nil => intro k r _ _; simp [val]
  | cons x t ih =>
    intro k r hk hr
    have hx : x < 4294967296 := hk x (by simp)
    have ht : ok32 t := fun z hz => hk z (by simp [hz])
    have e : val (x :: t) = 2 ^ 32 * val t + x := by simp only [val]; omega
    rw [e, Nat.testBit_two_pow_mul_add _ (by omega)]
    rcases k with _ | k
    · rw [if_pos (by omega)]; simp
    · rw [if_neg (by omega), show 32 * (k + 1) + r - 32 = 32 * k + r by omega, ih k r ht hr]; simp
end Go.Proofs.YtdmfapgclppmhaaGreatDoor
end
section
namespace Go.Proofs.YtdmfapgclppmhaaGreatDoor
open Go.RowKit
def Dg (w : World) (A : Option Addr) (c : Nat) (xs : List Nat) : Prop :=
  xs.length ≤ c ∧ ok32 xs ∧ (0 < xs.length → ∃ b off, A = some ⟨b, off, none⟩ ∧ b < w.heap.size ∧ ∀ j, j < xs.length → w.cell? ⟨b, off + j, none⟩ = some (.int .u32 (xs[j]?.getD 0 : Nat)))
theorem getD_lt {xs : List Nat} (h : ok32 xs) (j : Nat) : xs[j]?.getD 0 < 4294967296 := by
  rcases Nat.lt_or_ge j xs.length with hj | hj
  · rw [List.getElem?_eq_getElem hj]; exact h _ (List.getElem_mem hj)
  · rw [List.getElem?_eq_none hj]; simp
section
variable {w w' : World} {A : Option Addr} {c : Nat} {xs : List Nat}
theorem Dg.keep (h : Dg w A c xs) (hs : w.heap.size ≤ w'.heap.size) (hk : ∀ b o, b < w.heap.size → w'.cell? ⟨b, o, none⟩ = w.cell? ⟨b, o, none⟩) : Dg w' A c xs :=
  ⟨h.1, h.2.1, fun h0 => by
    obtain ⟨b, off, e, hb, hc⟩ := h.2.2 h0
    exact ⟨b, off, e, by omega, fun j hj => (hk _ _ hb).trans (hc j hj)⟩⟩
theorem Dg.below (h : Dg w A c xs) (hb : Below w.heap.size w w') : Dg w' A c xs :=
  h.keep hb.size fun b o hlt => hb.cell (p := ⟨b, o, none⟩) hlt
theorem Dg.drew (h : Dg w A c xs) : Dg w.drew A c xs := h
theorem Dg.drewN (h : Dg w A c xs) (k : Nat) : Dg (w.drewN k) A c xs := h
theorem Dg.nil_ (A : Option Addr) (c : Nat) : Dg w A c [] := ⟨Nat.zero_le _, fun _ hx => by simp at hx, fun h => absurd h (by simp)⟩
end
theorem below_drewN {B : Nat} {a w : World} (h : Below B a w) (n : Nat) : Below B a (w.drewN n) := ⟨h.os, h.tape, h.output, h.size, h.block⟩
end Go.Proofs.YtdmfapgclppmhaaGreatDoor
end
section
namespace Go.Proofs.YtdmfapgclppmhaaGreatDoor
open Go.RowKit
theorem short_fin {w : World} {A : Option Addr} {c : Nat} {xs : List Nat} {k : Nat} (h : Dg w A c xs) (hk : k ≤ xs.length) (hz : ∀ j, k ≤ j → j < xs.length → xs[j]?.getD 0 = 0) (hl : 0 < k → xs[k - 1]?.getD 0 ≠ 0) :
    ∃ A' c', Ending.returned (.slice A k c) = .returned (.slice A' (digs (val xs)).length c') ∧ Dg w A' c' (digs (val xs)) ∧ w = w := by
  have e := digs_take h.2.1 hk hz hl
  have el : (digs (val xs)).length = k := by rw [← e]; simp; omega
  refine ⟨A, c, by rw [el], ⟨by have := h.1; omega, ok_digs _, fun h0 => ?_⟩, rfl⟩
  obtain ⟨b, off, e1, hb, hc⟩ := h.2.2 (by omega)
  refine ⟨b, off, e1, hb, fun j hj => ?_⟩
  rw [hc j (by omega), ← e, List.getElem?_take, if_pos (by omega)]
theorem short_any (A : Option Addr) (c : Nat) (xs : List Nat) (w : World) (h : Dg w A c xs) (hl : xs.length ≤ 16777216) :
    Calls Tryz.prog 99 #[.slice A xs.length c] w fun e w' => ∃ A' c', e = .returned (.slice A' (digs (val xs)).length c') ∧ Dg w A' c' (digs (val xs)) ∧ w = w' := by
  go_enter Tryz.func99, Tryz.ntmps99
  go_wp2
  go_loop [3] (fun n => ∃ k : Nat, k ≤ xs.length ∧ n = .int .i64 k ∧ Hid (∀ j, k ≤ j → j < xs.length → xs[j]?.getD 0 = 0)) (fun n => (intOf n).toNat)
  case atStart => exact ⟨xs.length, Nat.le_refl _, rfl, fun j h1 h2 => by omega⟩
  case round =>
    obtain ⟨k, hk, rfl, hz⟩ := hrel
    by_cases hk0 : k = 0
    · subst hk0
      go_wp2
      go_ret
      exact short_fin h hk hz (fun h => absurd h (by omega))
    · obtain ⟨b, off, hA, hb, hcell⟩ := h.2.2 (by omega)
      have hc1 := hcell (k - 1) (by omega)
      have hkc : k ≤ c := by have := h.1; omega
      have hk1 : 0 < k := by omega
      by_cases hx : xs[k - 1]?.getD 0 = 0
      · have hx' : ((xs[k - 1]?.getD 0 : Nat) == (0 : Int)) = true := by rw [hx]; rfl
        have HX := qH hx
        have HA := qH hA
        clear hcell hx
        subst hA
        go_wp2
        go_round
        case rel => 
          refine ⟨k - 1, by omega, by go_num, fun j h1 h2 => ?_⟩
          by_cases hj : j = k - 1
          · subst hj; exact HX.out
          · exact hz j (by omega) h2
        case measure => simp [intOf]; omega
      · have hx' : ((xs[k - 1]?.getD 0 : Nat) == (0 : Int)) = false := by simp; omega
        have HX := qH hx
        clear hcell hx
        subst hA
        go_wp2
        go_ret
        exact short_fin h hk hz (fun _ => HX.out)
theorem below_drew {B : Nat} {a w : World} (h : Below B a w) : Below B a w.drew := ⟨h.os, h.tape, h.output, h.size, h.block⟩
theorem zero_any (A : Option Addr) (n c : Nat) (w : World) (q : Bool) (hq : ((n : Int) == 0) = q) :
    Calls Tryz.prog 100 #[.agg #[.slice A n c]] w fun e w' => e = .returned (.bool q) ∧ Below w.heap.size w w' := by
  go_enter Tryz.func100, Tryz.ntmps100
  go_wp2
  go_ret
  exact ⟨rfl, (Below.refl _ _).alloc (Nat.le_refl _) _⟩
theorem take_fin {w : World} {A : Option Addr} {c : Nat} {xs : List Nat} {k : Nat} (h : Dg w A c xs) (hk : k ≤ xs.length) (hz : ∀ j, k ≤ j → j < xs.length → xs[j]?.getD 0 = 0) (hl : 0 < k → xs[k - 1]?.getD 0 ≠ 0) :
    k = (digs (val xs)).length ∧ Dg w A k (digs (val xs)) ∧ decide (0 < val xs) = decide (0 < k) := by
  have e := digs_take h.2.1 hk hz hl
  have el : (digs (val xs)).length = k := by rw [← e]; simp; omega
  refine ⟨el.symm, ⟨by omega, ok_digs _, fun h0 => ?_⟩, ?_⟩
  · obtain ⟨b, off, e1, hb, hc⟩ := h.2.2 (by omega)
    refine ⟨b, off, e1, hb, fun j hj => ?_⟩
    rw [hc j (by omega), ← e, List.getElem?_take, if_pos (by omega)]
  · rw [decide_eq_decide]
    constructor
    · intro h0
      rcases Nat.eq_zero_or_pos k with h1 | h1
      · rw [h1] at el; have := digs_nil.1 el; omega
      · exact h1
    · intro h0
      rcases Nat.eq_zero_or_pos (val xs) with h1 | h1
      · rw [h1, digs_zero] at el; simp at el; omega
      · exact h1
theorem take_ret {w w' : World} {A : Option Addr} {k n : Nat} {q r s : Bool} (hk : k = n) (hq : q = r) {x : Nat} (hd : Dg w A k (digs x)) (hs : (s && decide (0 < x)) = r) (hb : Below w.heap.size w w') (hn : n = (digs x).length := by rfl) :
    ∃ A' c', Ending.returned (.agg #[.slice A k k, .bool q]) = .returned (.agg #[.slice A' (digs x).length c', .bool (s && decide (0 < x))]) ∧ Dg w' A' c' (digs x) ∧ Below w.heap.size w w' := by
  subst hk hq hn
  exact ⟨A, (digs x).length, by rw [hs], hd.below hb, hb⟩
theorem take_any (A : Option Addr) (c : Nat) (s : Bool) (xs : List Nat) (w : World) (h : Dg w A c xs) (hl : xs.length ≤ 16777216) :
    Calls Tryz.prog 106 #[.agg #[.bool s, .slice A xs.length c]] w fun e w' => ∃ A' c', e = .returned (.agg #[.slice A' (digs (val xs)).length c', .bool (s && decide (0 < val xs))]) ∧ Dg w' A' c' (digs (val xs)) ∧ Below w.heap.size w w' := by
  go_enter Tryz.func106, Tryz.ntmps106
  go_wp2
  go_loop [3] (fun n => ∃ k : Nat, k ≤ xs.length ∧ n = .int .i64 k ∧ Hid (∀ j, k ≤ j → j < xs.length → xs[j]?.getD 0 = 0)) (fun n => (intOf n).toNat)
  case atStart => exact ⟨xs.length, Nat.le_refl _, rfl, fun j h1 h2 => by omega⟩
  case round =>
    obtain ⟨k, hk, rfl, hz⟩ := hrel
    have hkc : k ≤ c := by have := h.1; omega
    by_cases hk0 : k = 0
    · subst hk0
      have HF := qH (take_fin h hk hz (fun h => absurd h (by omega)))
      have hd : decide ((0 : Int) < ((0 : Nat) : Int)) = false := rfl
      clear hz h
      cases s
      all_goals
        go_wp2
        go_region
        all_goals go_wp2
        refine bodyPost_ret (v := .agg #[.slice A 0 0, .bool false]) (by simp [results, Tryz.results106, go_sem]) rfl ?_
        exact take_ret HF.out.1 rfl HF.out.2.1 (by rw [HF.out.2.2]; rfl) (below_drew (((Below.refl _ _).alloc (Nat.le_refl _) _).alloc (by simp) _))
    · obtain ⟨b, off, hA, hb, hcell⟩ := h.2.2 (by omega)
      have hc1 := hcell (k - 1) (by omega)
      have hk1 : 0 < k := by omega
      have hkd : decide ((0 : Int) < (k : Int)) = true := by simp; omega
      have hk64 : k ≤ 16777216 := by omega
      by_cases hx : xs[k - 1]?.getD 0 = 0
      · have hx' : ((xs[k - 1]?.getD 0 : Nat) == (0 : Int)) = true := by rw [hx]; rfl
        have HX := qH hx
        have HA := qH hA
        clear hcell hx
        subst hA
        go_wp2
        go_round
        case rel =>
          refine ⟨k - 1, by omega, by go_num, fun j h1 h2 => ?_⟩
          by_cases hj : j = k - 1
          · subst hj; exact HX.out
          · exact hz j (by omega) h2
        case measure => simp [intOf]; omega
      · have hx' : ((xs[k - 1]?.getD 0 : Nat) == (0 : Int)) = false := by simp; omega
        have HF := qH (take_fin h hk hz (fun _ => hx))
        clear hcell hx hz
        subst hA
        cases s
        all_goals go_wp2
        all_goals go_region
        all_goals go_wp2
        rotate_left
        refine bodyPost_ret (v := .agg #[.slice (some ⟨b, off, none⟩) k k, .bool true]) (by simp [results, Tryz.results106, go_sem]) rfl ?_
        exact take_ret HF.out.1 rfl HF.out.2.1 (by rw [HF.out.2.2, decide_eq_true hk1]; rfl) (below_drew (((Below.refl _ _).alloc (Nat.le_refl _) _).alloc (by simp) _))
        refine bodyPost_ret (v := .agg #[.slice (some ⟨b, off, none⟩) k k, .bool false]) (by simp [results, Tryz.results106, go_sem]) rfl ?_
        exact take_ret HF.out.1 rfl HF.out.2.1 rfl (below_drew (((Below.refl _ _).alloc (Nat.le_refl _) _).alloc (by simp) _))
theorem ret2 {a b : Nat} {x y : Int} (h1 : x = a) (h2 : y = b) : Ending.returned (.tuple #[.int .u32 x, .int .u32 y]) = .returned (.tuple #[.int .u32 (a : Int), .int .u32 (b : Int)]) := by rw [h1, h2]
theorem ret_i {k : IntKind} {a b : Int} (h : a = b) : Ending.returned (.int k a) = .returned (.int k b) := by rw [h]
theorem add32_any (x y c : Nat) (w : World) (hx : x < 4294967296) (hy : y < 4294967296) (hc : c ≤ 1) :
    Calls Tryz.prog 120 #[.int .u32 x, .int .u32 y, .int .u32 c] w fun e w' => (∃ s d : Nat, e = .returned (.tuple #[.int .u32 s, .int .u32 d]) ∧ s + 4294967296 * d = x + y + c ∧ s < 4294967296 ∧ d ≤ 1) ∧ w = w' := by
  go_enter Tryz.func120, Tryz.ntmps120
  go_wp2
  go_ret2
  exact ⟨⟨(x + y + c) % 4294967296, (x + y + c) / 4294967296, ret2 (by omega) (by omega), by omega, by omega, by omega⟩, rfl⟩
theorem top_bit (n : Nat) (h : n < 4294967296) : n / 2147483648 = (n.testBit 31).toNat := by
  rw [Nat.testBit_eq_decide_div_mod_eq]
  by_cases hn : n / 2 ^ 31 % 2 = 1
  · simp [hn]; omega
  · simp [hn]; omega
theorem borrow_nat (x y c : Nat) (hx : x < 4294967296) (hy : y < 4294967296) (hc : c ≤ 1) :
    (((4294967295 ^^^ x) &&& y) ||| ((4294967295 ^^^ (x ^^^ y)) &&& ((x + 8589934592 - y - c) % 4294967296))) / 2147483648 = if x < y + c then 1 else 0 := by
  have l1 : (4294967295 ^^^ x) &&& y < 4294967296 := Nat.lt_of_le_of_lt Nat.and_le_right hy
  have l2 : (4294967295 ^^^ (x ^^^ y)) &&& ((x + 8589934592 - y - c) % 4294967296) < 4294967296 := Nat.lt_of_le_of_lt Nat.and_le_right (by omega)
  rw [top_bit _ (Nat.or_lt_two_pow (n := 32) l1 l2), Nat.testBit_or, Nat.testBit_and, Nat.testBit_and, Nat.testBit_xor, Nat.testBit_xor, Nat.testBit_xor]
  have hm : (4294967295 : Nat).testBit 31 = true := by decide
  have hxb := top_bit x hx
  have hyb := top_bit y hy
  have hdb := top_bit ((x + 8589934592 - y - c) % 4294967296) (by omega)
  rw [hm]
  generalize x.testBit 31 = bx at *
  generalize y.testBit 31 = bq at *
  generalize ((x + 8589934592 - y - c) % 4294967296).testBit 31 = bd at *
  cases bx <;> cases bq <;> cases bd <;> simp at hxb hyb hdb ⊢ <;> omega
theorem sub32_any (x y c : Nat) (w : World) (hx : x < 4294967296) (hy : y < 4294967296) (hc : c ≤ 1) :
    Calls Tryz.prog 121 #[.int .u32 x, .int .u32 y, .int .u32 c] w fun e w' => (∃ s d : Nat, e = .returned (.tuple #[.int .u32 s, .int .u32 d]) ∧ s + y + c = x + 4294967296 * d ∧ s < 4294967296 ∧ d ≤ 1) ∧ w = w' := by
  have hsg : IntKind.u32.signed = false := rfl
  go_enter Tryz.func121, Tryz.ntmps121
  go_wp2
  go_ret2
  have e0 : ((x : Int) - y - c) % 4294967296 = (((x + 8589934592 - y - c) % 4294967296 : Nat) : Int) := by omega
  have e1 : (((x : Int) - y) % 4294967296 - c) % 4294967296 = (((x + 8589934592 - y - c) % 4294967296 : Nat) : Int) := by omega
  have e2 : bits BinOp.or IntKind.u32 (bits BinOp.and IntKind.u32 (bits BinOp.xor IntKind.u32 4294967295 ↑x) ↑y) (bits BinOp.and IntKind.u32 (bits BinOp.xor IntKind.u32 4294967295 (bits BinOp.xor IntKind.u32 ↑x ↑y)) (((x : Int) - y - c) % 4294967296)) / 2147483648 = ((if x < y + c then 1 else 0 : Nat) : Int) := by
    have k1 : 4294967295 ^^^ x < 4294967296 := Nat.xor_lt_two_pow (n := 32) (by decide) hx
    have k2 : x ^^^ y < 4294967296 := Nat.xor_lt_two_pow (n := 32) hx hy
    have k3 : 4294967295 ^^^ (x ^^^ y) < 4294967296 := Nat.xor_lt_two_pow (n := 32) (by decide) k2
    rw [show (4294967295 : Int) = ((4294967295 : Nat) : Int) from rfl, e0, u32_xor_nat _ _ (by decide) hx, u32_xor_nat _ _ hx hy, u32_xor_nat _ _ (by decide) k2, u32_and_nat _ _ k1 hy, u32_and_nat _ _ k3 (by omega), u32_or_nat _ _ (Nat.lt_of_le_of_lt Nat.and_le_right hy) (Nat.lt_of_le_of_lt Nat.and_le_right (by omega)), ← borrow_nat x y c hx hy hc]
    simp
  refine ⟨⟨(x + 8589934592 - y - c) % 4294967296, if x < y + c then 1 else 0, ret2 e1 e2, ?_, by omega, by split <;> omega⟩, rfl⟩
  split <;> omega
theorem blen_eq (x : Nat) (h : x < 18446744073709551616) : blen x = Lib.bitLen x := by
  induction x using Nat.strongRecOn with
  | ind x ih =>
    by_cases h0 : x = 0
    · subst h0; rw [blen_zero]; rfl
    · rw [blen_pos h0, Lib.bitLen_half x h0 h, ih (x / 2) (by omega) (by omega)]
theorem len8_fin {x : Nat} (b : Int) (n k : Nat) (h0 : 0 ≤ b) (h1 : b ≤ 255) (hn : b = (n : Int)) (hs : Lib.bitLen x = k + Lib.bitLen n) (hk : k ≤ 1000) :
    wrap64 ((k : Int) + wrap64 (Lib.len8 b)) = (Lib.bitLen x : Int) := by
  have e : b.toNat = n := by omega
  have l := Lib.bitLen_le8' b h0 h1
  rw [Lib.len8_of b h0 h1, e] at *
  have w1 : wrap64 (Lib.bitLen n : Int) = (Lib.bitLen n : Int) := IntWalk.wrap64_in _ ⟨by omega, by omega⟩
  rw [w1, IntWalk.wrap64_in _ ⟨by omega, by omega⟩]
  omega
theorem len32_any (x : Nat) (w : World) (hx : x < 4294967296) :
    Calls Tryz.prog 110 #[.int .u32 x] w fun e w' => e = .returned (.int .i64 (blen x)) ∧ w = w' := by
  rw [blen_eq x (by omega)]
  by_cases h1 : 65536 ≤ x
  · have a1 : 65536 ≤ (x : Int) := by omega
    by_cases h2 : 16777216 ≤ x
    · have a2 : 256 ≤ (x : Int) / 65536 := by omega
      have a3 : 0 ≤ (x : Int) / 65536 / 256 := by omega
      have a4 : (x : Int) / 65536 / 256 ≤ 255 := by omega
      go_enter Tryz.func110, Tryz.ntmps110
      go_wp2
      go_ret
      exact ⟨ret_i (len8_fin ((x : Int) / 65536 / 256) (x / 16777216) 24 a3 a4 (by omega) (Lib.bitLen_shift24 x h2 (by omega)) (by omega)), rfl⟩
    · have a2 : (x : Int) / 65536 < 256 := by omega
      have a3 : 0 ≤ (x : Int) / 65536 := by omega
      have a4 : (x : Int) / 65536 ≤ 255 := by omega
      go_enter Tryz.func110, Tryz.ntmps110
      go_wp2
      go_ret
      exact ⟨ret_i (len8_fin ((x : Int) / 65536) (x / 65536) 16 a3 a4 (by omega) (Lib.bitLen_shift16 x h1 (by omega)) (by omega)), rfl⟩
  · by_cases h2 : 256 ≤ x
    · have HF := qH (len8_fin ((x : Int) / 256) (x / 256) 8 (by omega) (by omega) (by omega) (Lib.bitLen_shift8 x h2 (by omega)) (by omega))
      have a1 : (x : Int) < 65536 := by omega
      have a2 : 256 ≤ (x : Int) := by omega
      have a3 : 0 ≤ (x : Int) / 256 := by omega
      have a4 : (x : Int) / 256 ≤ 255 := by omega
      have a5 : 0 ≤ (x : Int) := by omega
      clear h1 h2 hx
      generalize (x : Int) = X at *
      go_enter Tryz.func110, Tryz.ntmps110
      go_wp2
      go_ret
      exact ⟨ret_i HF.out, rfl⟩
    · have hf := len8_fin (x := x) (x : Int) x 0 (by omega) (by omega) rfl (by omega) (by omega)
      simp only [Int.natCast_zero, Int.zero_add] at hf
      have HF := qH hf
      have a1 : (x : Int) < 65536 := by omega
      have a2 : (x : Int) < 256 := by omega
      have a3 : 0 ≤ (x : Int) := by omega
      have a4 : (x : Int) ≤ 255 := by omega
      clear h1 h2 hx hf
      generalize (x : Int) = X at *
      go_enter Tryz.func110, Tryz.ntmps110
      go_wp2
      go_ret
      exact ⟨ret_i HF.out, rfl⟩
theorem sign_yes (w : World) : Calls Tryz.prog 111 #[.bool true] w fun e w' => e = .returned (.int .i64 1) ∧ w = w' := by
  go_enter Tryz.func111, Tryz.ntmps111
  go_wp2
  go_ret
  exact ⟨rfl, rfl⟩
theorem sign_no (w : World) : Calls Tryz.prog 111 #[.bool false] w fun e w' => e = .returned (.int .i64 (-1)) ∧ w = w' := by
  go_enter Tryz.func111, Tryz.ntmps111
  go_wp2
  go_ret
  exact ⟨rfl, rfl⟩
def cells (xs : List Nat) : List Value := xs.map fun (x : Nat) => Value.int .u32 (x : Int)
theorem cells_get {xs : List Nat} {j : Nat} {u : Value} (h : (cells xs)[j]? = some u) : j < xs.length ∧ u = .int .u32 (xs[j]?.getD 0 : Nat) := by
  unfold cells at h
  rw [List.getElem?_map] at h
  rcases Nat.lt_or_ge j xs.length with hj | hj
  · rw [List.getElem?_eq_getElem hj] at h ⊢
    simp at h
    exact ⟨hj, by simp [h]⟩
  · rw [List.getElem?_eq_none hj] at h; simp at h
theorem dg_of_own {w : World} {base : Nat} {e : TypeId} {v : Value} {n : Nat} {xs : List Nat} (h : w.ownsRow base e 1 v n (cells xs)) (hk : ok32 xs) : ∃ A c, v = .slice A xs.length c ∧ Dg w A c xs := by
  have hn : xs.length = n := by have := h.1; simp [cells] at this; omega
  rcases h.2 with ⟨rfl, h0⟩ | ⟨g, cap, cur, rfl, hb, hh, hc, hm, hs, ht⟩
  · have : xs = [] := List.eq_nil_of_length_eq_zero (by omega)
    subst this
    exact ⟨none, 0, rfl, Dg.nil_ _ _⟩
  · refine ⟨some ⟨g, 0, none⟩, cap, by rw [hn], by omega, hk, fun h0 => ⟨g, 0, rfl, ?_, fun j hj => ?_⟩⟩
    · rcases Nat.lt_or_ge g w.heap.size with hlt | hge
      · exact hlt
      · rw [Array.getElem?_eq_none hge] at hh; cases hh
    · have hca := h.cellAt j (by omega)
      rw [Nat.zero_add, hca]
      unfold cells
      rw [List.getElem?_map, List.getElem?_eq_getElem hj]
      simp
def Fr (B : Nat) (A : Option Addr) : Prop := ∀ b o, A = some ⟨b, o, none⟩ → B ≤ b
theorem fr_none (B : Nat) : Fr B none := fun _ _ h => by cases h
theorem dg_of_own_f {w : World} {base : Nat} {e : TypeId} {v : Value} {n : Nat} {xs : List Nat} (h : w.ownsRow base e 1 v n (cells xs)) (hk : ok32 xs) : ∃ A c, v = .slice A xs.length c ∧ Dg w A c xs ∧ Fr base A := by
  obtain ⟨A, c, hv, hd⟩ := dg_of_own h hk
  refine ⟨A, c, hv, hd, ?_⟩
  rcases h.2 with ⟨rfl, h0⟩ | ⟨g, cap, cur, rfl, hb, _⟩
  · simp only [Value.slice.injEq] at hv; obtain ⟨rfl, _⟩ := hv; exact fr_none _
  · simp only [Value.slice.injEq] at hv; obtain ⟨rfl, _⟩ := hv
    intro b o e
    simp only [Option.some.injEq, Addr.mk.injEq] at e
    omega
theorem elem_info : (Tryz.prog.info? 67).map (fun i => (i.zero, i.size, i.bytes)) = some (some (.int .u32 0), 1, 4) := by kernel_rfl
theorem dg_cell {w : World} {A : Addr} {c : Nat} {xs : List Nat} (h : Dg w (some A) c xs) {j : Nat} {u : Value} (hu : (cells xs)[j]? = some u) : w.cell? (A.add j) = some u := by
  obtain ⟨hj, rfl⟩ := cells_get hu
  obtain ⟨b, off, e, _, hc⟩ := h.2.2 (by omega)
  injection e with e
  subst e
  rw [Addr.add_lit]
  exact hc j hj
theorem clone_any (A : Option Addr) (c : Nat) (xs : List Nat) (w : World) (h : Dg w A c xs) (hl : xs.length ≤ 16777216) :
    Calls Tryz.prog 98 #[.slice A xs.length c] w fun e w' => ∃ A' c', e = .returned (.slice A' xs.length c') ∧ Dg w' A' c' xs ∧ Below w.heap.size w w' := by
  obtain ⟨i0, hi, hz0, hz1, hz2⟩ := info_parts elem_info
  have q22 : ∀ (w : World) (a : Option Addr) (n c n' c' : Nat), (binOp .eql 22 (.slice a n c) (.slice none n' c')).run Tryz.prog w = .ok (.bool a.isNone) w := fun w a n c n' c' => Lib.run_eql_slice_nil w _ _ a n c n' c' Tryz.underlying22
  rcases A with _ | A
  · have h0 : xs = [] := by
      rcases Nat.eq_zero_or_pos xs.length with h0 | h0
      · exact List.eq_nil_of_length_eq_zero h0
      · obtain ⟨b, off, e, _⟩ := h.2.2 h0
        cases e
    subst h0
    go_enter Tryz.func98, Tryz.ntmps98
    go_wp2
    go_ret
    exact ⟨none, 0, rfl, Dg.nil_ _ _, Below.refl _ _⟩
  · have H := qH h
    have hc : xs.length = (cells xs).length := by simp [cells]
    have HC := qH hc
    clear h hc
    go_enter Tryz.func98, Tryz.ntmps98
    go_wp2_with (at_builtin; refine wpList_append_own _ rfl _ _ 22 rfl w.heap.size 67 i0 (.int .u32 0) 1 4 Tryz.underlying22 hi hz0 hz1 hz2 rfl (by decide) _ _ _ rfl (World.ownsRow_made w #[] 0 (Nat.le_refl _) (Nat.zero_le _) rfl) A xs.length c (cells xs) rfl ?qc1 ?qc2 ?qc3 ?qc4 ?qc5 ?qc6 ?_)
    case qc1 => have := HC.out; omega
    case qc2 =>
      intro j u hj
      obtain ⟨hlt, _⟩ := cells_get hj
      have hold := dg_cell H.out hj
      obtain ⟨b, off, e, hb, _⟩ := H.out.2.2 (by omega)
      injection e with e
      subst e
      rw [← hold]
      exact World.cell?_alloc_lt w _ _ (by rw [Addr.add_lit]; exact hb)
    case qc3 => intro u hu; unfold cells at hu; obtain ⟨x, _, rfl⟩ := List.mem_map.1 hu; rfl
    case qc4 => unfold maxLen; omega
    case qc5 => omega
    case qc6 => simp
    intro v' w1 hown hgrow hnil
    try simp only [Nat.zero_add, List.nil_append] at hown
    obtain ⟨A', c', hv, hd⟩ := dg_of_own hown H.out.2.1
    have HV := qH hv
    clear hv hown
    go_wp2
    go_ret
    refine ⟨A', c', by rw [← HV.out]; rfl, hd, ?_⟩
    exact ((Below.refl _ w).alloc (Nat.le_refl _) _).grown hgrow (by simp) (by intro k hk; simp [Value.ownBlock] at hk; omega)
theorem trim_any (A : Option Addr) (c : Nat) (xs : List Nat) (w : World) (h : Dg w A c xs) (hl : xs.length ≤ 16777216) :
    Calls Tryz.prog 74 #[.slice A xs.length c] w fun e w' => ∃ A' c', e = .returned (.slice A' (digs (val xs)).length c') ∧ Dg w' A' c' (digs (val xs)) ∧ Below w.heap.size w w' := by
  have hd := digs_len_le h.2.1
  have H := qH h
  clear h
  go_enter Tryz.func74, Tryz.ntmps74
  go_wp2_with fail
  refine (short_any A c xs _ H.out hl).mono ?_
  rintro e w' ⟨A1, c1, rfl, h1, rfl⟩
  have H1 := qH h1
  clear h1
  go_wp2_with fail
  refine (clone_any A1 c1 _ _ H1.out (by omega)).mono ?_
  rintro e w' ⟨A2, c2, rfl, h2, hb⟩
  have H2 := qH h2
  clear h2
  go_wp2
  go_ret
  exact ⟨A2, c2, rfl, H2.out, hb⟩
theorem short_n {A : Option Addr} {c n : Nat} {xs : List Nat} {w : World} (h : Dg w A c xs) (hl : xs.length ≤ 16777216) (hn : n = xs.length) :
    Calls Tryz.prog 99 #[.slice A n c] w fun e w' => ∃ A' c', e = .returned (.slice A' (digs (val xs)).length c') ∧ Dg w A' c' (digs (val xs)) ∧ w = w' := by
  subst hn; exact short_any A c xs w h hl
theorem dg_new (w : World) (cs : Array Value) (t : TypeId) {xs : List Nat} (hk : ok32 xs) (hc : ∀ j, j < xs.length → cs[j]? = some (.int .u32 (xs[j]?.getD 0 : Nat))) {c : Nat} (hcap : xs.length ≤ c) :
    Dg (w.alloc (.cells cs t)) (some ⟨w.heap.size, 0, none⟩) c xs := by
  refine ⟨hcap, hk, fun _ => ⟨w.heap.size, 0, rfl, by simp, fun j hj => ?_⟩⟩
  rw [Nat.zero_add, cell_of_row _ _ _ _ _ _ (heap_alloc_new w _)]
  exact hc j hj
theorem dg_two (w : World) (x y : Int) (a b : Nat) (hx : x = (a : Int)) (hy : y = (b : Int)) (t : TypeId) (ha : a < 4294967296) (hb : b < 4294967296) :
    Dg (w.alloc (.cells #[.int .u32 x, .int .u32 y] t)) (some ⟨w.heap.size, 0, none⟩) 2 [a, b] := by
  refine dg_new _ _ _ ?_ (fun j hj => ?_) (Nat.le_refl _)
  · intro x hx; simp at hx; rcases hx with rfl | rfl <;> assumption
  · simp at hj
    subst hx hy
    rcases (show j = 0 ∨ j = 1 by omega) with rfl | rfl <;> rfl
theorem from_any (n : Nat) (w : World) (hn : n < 18446744073709551616) :
    Calls Tryz.prog 94 #[.int .u64 n] w fun e w' => ∃ A' c', e = .returned (.slice A' (digs n).length c') ∧ Dg w' A' c' (digs n) ∧ Below w.heap.size w w' := by
  have hv : val [n % 4294967296, n / 4294967296] = n := by simp only [val]; omega
  have hs := short_n (n := 2) (dg_two w ((n : Int) % 4294967296) ((n : Int) / 4294967296) (n % 4294967296) (n / 4294967296) (by omega) (by omega) 67 (by omega) (by omega)) (by simp) rfl
  rw [hv] at hs
  have HS := qH hs
  clear hs hv
  go_enter Tryz.func94, Tryz.ntmps94
  go_wp2_with fail
  refine HS.out.mono ?_
  rintro e w' ⟨A1, c1, rfl, h1, rfl⟩
  have H1 := qH h1
  clear h1
  go_wp2
  go_ret
  exact ⟨A1, c1, rfl, H1.out, (Below.refl _ _).alloc (Nat.le_refl _) _⟩
theorem digs_small {n : Nat} (h : n < 18446744073709551616) : (digs n).length ≤ 2 := by
  by_cases h0 : n = 0
  · subst h0; rw [digs_zero]; simp
  · rw [digs_pos h0]
    by_cases h1 : n / 4294967296 = 0
    · rw [h1, digs_zero]; simp
    · rw [digs_pos h1, show n / 4294967296 / 4294967296 = 0 by omega, digs_zero]; simp
theorem digs_great {n : Nat} (h : 18446744073709551616 ≤ n) : 2 < (digs n).length := by
  rw [digs_pos (by omega), digs_pos (by omega), digs_pos (by omega)]; simp
def small? (n : Nat) : Nat := if n < 18446744073709551616 then n else 0
theorem ret_ub {a b : Int} {p q : Bool} (h : a = b ∧ p = q) : Ending.returned (.tuple #[.int .u64 a, .bool p]) = .returned (.tuple #[.int .u64 b, .bool q]) := by rw [h.1, h.2]
theorem small_yes {n v : Nat} (h : n = v) (hv : n < 18446744073709551616) : (v : Int) = (small? n : Int) ∧ true = decide (n < 18446744073709551616) := by
  unfold small?; rw [if_pos hv, h]; exact ⟨rfl, by rw [decide_eq_true]; omega⟩
theorem small_no {n : Nat} (hv : 18446744073709551616 ≤ n) : (0 : Int) = (small? n : Int) ∧ false = decide (n < 18446744073709551616) := by
  unfold small?; rw [if_neg (by omega)]; exact ⟨rfl, by rw [decide_eq_false]; omega⟩
theorem or_join (a b : Nat) (ha : a < 4294967296) (hb : b < 4294967296) : bits BinOp.or IntKind.u64 ((a : Int) * 4294967296) (b : Int) = ((b + 4294967296 * a : Nat) : Int) := by
  have e : (a : Int) * 4294967296 = ((a * 4294967296 : Nat) : Int) := by omega
  rw [e, u64_or_nat _ _ (by omega) (by omega), nat_join 32 _ _ (by omega) (by omega)]
  congr 1
  omega
theorem small_any (A : Option Addr) (c : Nat) (xs : List Nat) (w : World) (h : Dg w A c xs) (hl : xs.length ≤ 16777216) :
    Calls Tryz.prog 112 #[.slice A xs.length c] w fun e w' => e = .returned (.tuple #[.int .u64 (small? (val xs)), .bool (decide (val xs < 18446744073709551616))]) ∧ ∃ n, w' = w.drewN n := by
  have H := qH h
  clear h
  go_enter Tryz.func112, Tryz.ntmps112
  go_wp2_with fail
  refine (short_any A c xs _ H.out hl).mono ?_
  rintro e w' ⟨A1, c1, rfl, h1, rfl⟩
  have hvd := val_digs (val xs)
  have hok := ok_digs (val xs)
  have hsm := @digs_small (val xs)
  generalize digs (val xs) = ds at *
  rcases ds with _ | ⟨d0, _ | ⟨d1, _ | ⟨d2, r⟩⟩⟩
  · have HV := qH (small_yes (n := val xs) (v := 0) (by simp only [val] at hvd; omega) (by simp only [val] at hvd; omega))
    clear hsm hvd hok h1
    go_wp2
    go_ret2
    exact ⟨ret_ub HV.out, 0, rfl⟩
  · obtain ⟨b, off, rfl, hb, hc⟩ := h1.2.2 (by simp)
    have hc0 := hc 0 (by simp)
    have hd0 := hok d0 (by simp)
    simp at hc0
    have HV := qH (small_yes (n := val xs) (v := d0) (by simp only [val] at hvd; omega) (by simp only [val] at hvd; omega))
    clear hsm hvd hok h1 hc
    go_wp2
    go_ret2
    exact ⟨ret_ub HV.out, 0, rfl⟩
  · obtain ⟨b, off, rfl, hb, hc⟩ := h1.2.2 (by simp)
    have hc0 := hc 0 (by simp)
    have hc1 := hc 1 (by simp)
    have hd0 := hok d0 (by simp)
    have hd1 := hok d1 (by simp)
    simp at hc0 hc1
    have HV := qH (small_yes (n := val xs) (v := d0 + 4294967296 * d1) (by simp only [val] at hvd; omega) (by simp only [val] at hvd; omega))
    have HO := qH (or_join d1 d0 hd1 hd0)
    clear hsm hvd hok h1 hc
    go_wp2
    go_quiet (fail)
    go_wp2
    go_ret2
    refine ⟨?_, _, rfl⟩
    exact ret_ub ⟨HO.out.trans HV.out.1, HV.out.2⟩
  · have HV := qH (small_no (n := val xs) (by rcases Nat.lt_or_ge (val xs) 18446744073709551616 with h | h; (have := hsm h; simp at this); exact h))
    clear hsm hvd hok h1
    have hn : 3 ≤ (d0 :: d1 :: d2 :: r).length := by simp
    generalize (d0 :: d1 :: d2 :: r).length = n at *
    go_wp2
    go_ret2
    exact ⟨ret_ub HV.out, 0, rfl⟩
def cmpi (a b : Nat) : Int := if a < b then -1 else if a = b then 0 else 1
theorem cmpi_lt {a b : Nat} (h : a < b) : cmpi a b = -1 := by unfold cmpi; rw [if_pos h]
theorem cmpi_eq {a b : Nat} (h : a = b) : cmpi a b = 0 := by unfold cmpi; rw [if_neg (by omega), if_pos h]
theorem cmpi_gt {a b : Nat} (h : b < a) : cmpi a b = 1 := by unfold cmpi; rw [if_neg (by omega), if_neg (by omega)]
theorem digs_len_mono (a : Nat) : ∀ b, a ≤ b → (digs a).length ≤ (digs b).length := by
  induction a using Nat.strongRecOn with
  | ind a ih =>
    intro b h
    by_cases h0 : a = 0
    · subst h0; rw [digs_zero]; simp
    · rw [digs_pos h0, digs_pos (by omega : b ≠ 0)]
      have := ih (a / 4294967296) (by omega) (b / 4294967296) (by omega)
      simp; omega
theorem lt_of_len {a b : Nat} (h : (digs a).length < (digs b).length) : a < b := by
  rcases Nat.lt_or_ge a b with h1 | h1
  · exact h1
  · have := digs_len_mono b a h1; omega
theorem val_lt_at : ∀ (xs ys : List Nat) (k : Nat), xs.length = ys.length → ok32 xs → ok32 ys → k < xs.length → (∀ j, k < j → j < xs.length → xs[j]?.getD 0 = ys[j]?.getD 0) → xs[k]?.getD 0 < ys[k]?.getD 0 → val xs < val ys := by
  intro xs
  induction xs with
  | nil => intro ys k _ _ _ h; simp at h
  | cons x r ih =>
    intro ys k hl hx hy hk hj hlt
    rcases ys with _ | ⟨y, s⟩
    · simp at hl
    · have h1 : x < 4294967296 := hx x (by simp)
      have h2 : y < 4294967296 := hy y (by simp)
      have hx' : ok32 r := fun z hz => hx z (by simp [hz])
      have hy' : ok32 s := fun z hz => hy z (by simp [hz])
      simp at hl
      simp only [val]
      rcases k with _ | k
      · have e : r = s := by
          apply List.ext_getElem hl
          intro j a b
          have := hj (j + 1) (by omega) (by simp; omega)
          simpa [List.getElem?_eq_getElem a, List.getElem?_eq_getElem b] using this
        subst e
        simp at hlt
        omega
      · have := ih s k hl hx' hy' (by simpa using hk) (fun j a b => by simpa using hj (j + 1) (by omega) (by simp; omega)) (by simpa using hlt)
        omega
theorem val_eq_of {xs ys : List Nat} (hl : xs.length = ys.length) (h : ∀ j, j < xs.length → xs[j]?.getD 0 = ys[j]?.getD 0) : xs = ys := by
  apply List.ext_getElem hl
  intro j a b
  simpa [List.getElem?_eq_getElem a, List.getElem?_eq_getElem b] using h j a
theorem quiet_sign {b : Bool} {w : World} {a n : Nat} :
    Calls Tryz.prog 111 #[.bool b] (w.drewN (a + n)) fun e w'' => e = .returned (.int .i64 (if b then 1 else -1)) ∧ ∃ m, w'' = w.drewN (a + m) := by
  cases b
  · exact (sign_no _).mono fun _ _ ⟨he, hm⟩ => ⟨he, n, hm.symm⟩
  · exact (sign_yes _).mono fun _ _ ⟨he, hm⟩ => ⟨he, n, hm.symm⟩
theorem cmp_any (A B : Option Addr) (c d : Nat) (xs ys : List Nat) (w : World) (h : Dg w A c xs) (h' : Dg w B d ys) (hl : xs.length ≤ 16777216) (hl' : ys.length ≤ 16777216) :
    Calls Tryz.prog 92 #[.slice A xs.length c, .slice B ys.length d] w fun e w' => e = .returned (.int .i64 (cmpi (val xs) (val ys))) ∧ ∃ n, w' = w.drewN n := by
  have l1 := digs_len_le h.2.1
  have l2 := digs_len_le h'.2.1
  have H := qH h
  have H' := qH h'
  clear h h'
  go_enter Tryz.func92, Tryz.ntmps92
  go_wp2_with fail
  refine (short_any A c xs _ H.out hl).mono ?_
  rintro e w' ⟨A1, c1, rfl, h1, rfl⟩
  have H1 := qH h1
  clear h1
  go_wp2_with fail
  refine (short_any B d ys _ H'.out hl').mono ?_
  rintro e w' ⟨B1, d1, rfl, h2, rfl⟩
  have H2 := qH h2
  clear h2
  have V1 := qH (val_digs (val xs))
  have V2 := qH (val_digs (val ys))
  have O1 := qH (ok_digs (val xs))
  have O2 := qH (ok_digs (val ys))
  have L1 := qH (@lt_of_len (val xs) (val ys))
  have L2 := qH (@lt_of_len (val ys) (val xs))
  generalize digs (val xs) = X at *
  generalize digs (val ys) = Y at *
  by_cases hlt : X.length < Y.length
  · have HF := qH (cmpi_lt (L1.out hlt))
    have hne : ((X.length : Int) != (Y.length : Int)) = true := by simp; omega
    have hd : decide (Y.length < X.length) = false := by simp; omega
    clear hlt
    go_wp2_with fail
    refine (sign_no _).mono ?_
    rintro e w' ⟨rfl, rfl⟩
    go_wp2
    go_ret
    exact ⟨ret_i HF.out.symm, 0, rfl⟩
  by_cases hgt : Y.length < X.length
  · have HF := qH (cmpi_gt (L2.out hgt))
    have hne : ((X.length : Int) != (Y.length : Int)) = true := by simp; omega
    have hd : decide (Y.length < X.length) = true := by simp; omega
    clear hlt
    go_wp2_with fail
    refine (sign_yes _).mono ?_
    rintro e w' ⟨rfl, rfl⟩
    go_wp2
    go_ret
    exact ⟨ret_i HF.out.symm, 0, rfl⟩
  have hle : X.length = Y.length := by omega
  have HL := qH hle
  rw [← hle]
  have hne : ((X.length : Int) != (X.length : Int)) = false := by simp
  clear hlt hgt hle
  go_wp2
  go_loopw [5] (fun i wr => (∃ k : Nat, k ≤ X.length ∧ i = .int .i64 (↑k - 1) ∧ Hid (∀ j, k ≤ j → j < X.length → X[j]?.getD 0 = Y[j]?.getD 0)) ∧ ∃ m, wr = w.drewN m) (fun i _ => (intOf i + 1).toNat)
  case atStart => exact ⟨⟨X.length, Nat.le_refl _, rfl, fun j a b => by omega⟩, 0, rfl⟩
  case round =>
    obtain ⟨⟨k, hk, rfl, hz⟩, m, rfl⟩ := hrel
    rcases k with _ | k
    · rw [show (((0 : Nat) : Int) - 1) = -1 from rfl]
      have e := val_eq_of HL.out (fun j hj => hz j (Nat.zero_le _) hj)
      have HF := qH (cmpi_eq (a := val xs) (b := val ys) (by rw [← V1.out, ← V2.out, e]))
      clear e
      go_wp2
      go_ret
      exact ⟨ret_i HF.out.symm, _, rfl⟩
    · rw [show (((k + 1 : Nat) : Int) - 1) = (k : Int) from by omega]
      obtain ⟨b, off, hA, hb, hcx⟩ := H1.out.2.2 (by omega)
      obtain ⟨b', off', hB, hb', hcy⟩ := H2.out.2.2 (by have := HL.out; omega)
      have hx := hcx k (by omega)
      have hy := hcy k (by have := HL.out; omega)
      clear hcx hcy
      subst hA hB
      have hq := HL.out
      rcases Nat.lt_trichotomy (X[k]?.getD 0) (Y[k]?.getD 0) with h | h | h
      · have HF := qH (cmpi_lt (a := val xs) (b := val ys) (by rw [← V1.out, ← V2.out]; exact val_lt_at X Y k HL.out O1.out O2.out (by omega) (fun j a b => hz j (by omega) b) h))
        have t1 : ((X[k]?.getD 0 : Nat) != ((Y[k]?.getD 0 : Nat) : Int)) = true := by simp; omega
        have t2 : decide (Y[k]?.getD 0 < X[k]?.getD 0) = false := by simp; omega
        clear h hq
        go_wp2_with fail
        go_quiet (fail)
        go_wp2_with fail
        go_quiet ((go_at_call 111; exact quiet_sign))
        go_wp2
        go_ret
        exact ⟨ret_i HF.out.symm, _, by first | rfl | (simp only [World.drewN_drewN]; rfl)⟩
      · have HX := qH h
        have t1 : ((X[k]?.getD 0 : Nat) != ((Y[k]?.getD 0 : Nat) : Int)) = false := by simp; omega
        clear h hq
        go_wp2_with fail
        go_quiet (fail)
        go_wp2_with fail
        go_roundw
        case rel =>
          refine ⟨⟨k, by omega, rfl, fun j a b => ?_⟩, _, rfl⟩
          rcases Nat.eq_or_lt_of_le a with e | e
          · subst e; exact HX.out
          · exact hz j (by omega) b
        case measure => simp [intOf] <;> omega
      · have HF := qH (cmpi_gt (a := val xs) (b := val ys) (by rw [← V1.out, ← V2.out]; exact val_lt_at Y X k HL.out.symm O2.out O1.out (by omega) (fun j a b => (hz j (by omega) (by omega)).symm) h))
        have t1 : ((X[k]?.getD 0 : Nat) != ((Y[k]?.getD 0 : Nat) : Int)) = true := by simp; omega
        have t2 : decide (Y[k]?.getD 0 < X[k]?.getD 0) = true := by simp; omega
        clear h hq
        go_wp2_with fail
        go_quiet (fail)
        go_wp2_with fail
        go_quiet ((go_at_call 111; exact quiet_sign))
        go_wp2
        go_ret
        exact ⟨ret_i HF.out.symm, _, by first | rfl | (simp only [World.drewN_drewN]; rfl)⟩
theorem bits_any (A : Option Addr) (c : Nat) (xs : List Nat) (w : World) (h : Dg w A c xs) (hl : xs.length ≤ 16777216) :
    Calls Tryz.prog 89 #[.slice A xs.length c] w fun e w' => e = .returned (.int .i64 (blen (val xs))) ∧ w = w' := by
  have l1 := digs_len_le h.2.1
  have H := qH h
  clear h
  go_enter Tryz.func89, Tryz.ntmps89
  go_wp2_with fail
  refine (short_any A c xs _ H.out hl).mono ?_
  rintro e w' ⟨A1, c1, rfl, h1, rfl⟩
  have H1 := qH h1
  clear h1
  by_cases h0 : val xs = 0
  · have e0 : digs (val xs) = [] := by rw [h0, digs_zero]
    have HF : Hid ((0 : Int) = (blen (val xs) : Int)) := by rw [h0, blen_zero]; rfl
    rw [e0]
    clear h0 e0
    go_wp2
    go_ret
    exact ⟨ret_i HF.out, rfl⟩
  · have hb := blen_digs (val xs) h0
    have hn : (digs (val xs)).length ≠ 0 := fun h => h0 (digs_nil.1 h)
    have ok := ok_digs (val xs)
    generalize digs (val xs) = X at *
    obtain ⟨b, off, hA, hbk, hcx⟩ := H1.out.2.2 (by omega)
    have hx := hcx (X.length - 1) (by omega)
    have hlt := getD_lt ok (X.length - 1)
    generalize X[X.length - 1]?.getD 0 = d at *
    have hbl : blen d ≤ 64 := by rw [blen_eq _ (by omega)]; exact Lib.bitLen_le d 64 (by omega) (by omega)
    have HB := qH hb
    have t0 : 0 < X.length := by omega
    have t1 : ((X.length : Int) == 0) = false := beq_eq_false_iff_ne.2 (by omega)
    clear hcx hb h0 hn ok
    subst hA
    go_wp2_with fail
    refine (len32_any d _ hlt).mono ?_
    rintro e w' ⟨rfl, rfl⟩
    go_wp2
    go_ret
    exact ⟨ret_i (by rw [HB.out]; omega), rfl⟩
def bitAt (v : Nat) (i : Int) : Bool := decide (0 ≤ i) && v.testBit i.toNat
theorem ret_b {p q : Bool} (h : p = q) : Ending.returned (.bool p) = .returned (.bool q) := by rw [h]
theorem bit_fin (d r : Nat) (hd : d < 4294967296) : (bits BinOp.and IntKind.u32 ((d : Int) / 2 ^ r) 1 == 1) = d.testBit r := by
  have e : (d : Int) / 2 ^ r = ((d / 2 ^ r : Nat) : Int) := by rw [Int.natCast_ediv, Int.natCast_pow]; rfl
  have hlt : d / 2 ^ r < 4294967296 := Nat.lt_of_le_of_lt (Nat.div_le_self _ _) hd
  rw [e, show (1 : Int) = ((1 : Nat) : Int) from rfl, u32_and_nat _ _ hlt (by omega), Nat.and_one_is_mod, Nat.testBit_eq_decide_div_mod_eq]
  rw [Bool.eq_iff_iff]
  simp
  omega
end Go.Proofs.YtdmfapgclppmhaaGreatDoor
end
section
namespace Go.Proofs.YtdmfapgclppmhaaGreatDoor
open Go.RowKit
def Row (w : World) (g : Nat) (ys : List Nat) : Prop := w.heap[g]? = some (.cells (cells ys).toArray 67 (0, 0))
theorem cells_at {xs : List Nat} {j : Nat} (h : j < xs.length) : (cells xs)[j]? = some (.int .u32 (xs[j]?.getD 0 : Nat)) := by
  unfold cells; rw [List.getElem?_map, List.getElem?_eq_getElem h]; simp
section
variable {w w' : World} {g : Nat} {ys : List Nat}
theorem Row.lt (h : Row w g ys) : g < w.heap.size := by
  rcases Nat.lt_or_ge g w.heap.size with hlt | hge
  · exact hlt
  · unfold Row at h; rw [Array.getElem?_eq_none hge] at h; cases h
theorem Row.cell (h : Row w g ys) {i : Nat} (hi : i < ys.length) : w.cell? ⟨g, i, none⟩ = some (.int .u32 (ys[i]?.getD 0 : Nat)) := by
  rw [cell_of_row w g i _ _ _ h, gAy, cells_at hi]
theorem Row.frozen (h : Row w g ys) (i : Nat) : w.frozen? ⟨g, i, none⟩ = false := by unfold Row at h; simp [World.frozen?, h]
theorem Row.made (w : World) (n : Nat) : Row (w.alloc (.cells (madeCells #[.int .u32 0] n) 67)) w.heap.size (List.replicate n 0) := by
  have e : madeCells #[.int .u32 0] n = (cells (List.replicate n 0)).toArray := by
    apply Array.ext
    · simp [madeCells, cells]
    · intro i h1 h2
      simp [madeCells, cells, Nat.mod_one]
  unfold Row
  rw [e]
  exact heap_alloc_new w _
theorem Row.drew (h : Row w g ys) : Row w.drew g ys := h
theorem Row.drewN (h : Row w g ys) (n : Nat) : Row (w.drewN n) g ys := h
theorem Row.set_ (h : Row w g ys) (i x : Nat) : Row (w.setCell ⟨g, i, none⟩ (.int .u32 (x : Int))) g (ys.set i x) := by
  have e : (cells (ys.set i x)).toArray = (cells ys).toArray.setIfInBounds i (.int .u32 (x : Int)) := by
    simp [cells]
  unfold Row at *
  rw [e]
  simp [World.setCell, Array.getElem?_modify, h]
theorem Row.below {B : Nat} (h : Row w g ys) (hb : Below B w w') (hg : g < B) : Row w' g ys := (hb.block g hg).trans h
theorem Row.dg (h : Row w g ys) (hk : ok32 ys) {c : Nat} (hc : ys.length ≤ c) : Dg w (some ⟨g, 0, none⟩) c ys :=
  ⟨hc, hk, fun _ => ⟨g, 0, rfl, h.lt, fun j hj => by rw [Nat.zero_add]; exact h.cell hj⟩⟩
end
theorem ok_zeros (n : Nat) : ok32 (List.replicate n 0) := by
  intro x hx
  rw [List.eq_of_mem_replicate hx]; omega
theorem ok_set {ys : List Nat} (h : ok32 ys) {x : Nat} (hx : x < 4294967296) (i : Nat) : ok32 (ys.set i x) := by
  intro z hz
  rcases List.mem_or_eq_of_mem_set hz with hz | rfl
  · exact h z hz
  · exact hx
def lo (n : Nat) : Nat := n % 4294967296
def hi (n : Nat) : Nat := n / 4294967296
theorem lo_hi (n : Nat) : lo n + 4294967296 * hi n = n := by unfold lo hi; omega
theorem lo_lt (n : Nat) : lo n < 4294967296 := by unfold lo; omega
def sublo (x y c : Nat) : Nat := (x + 8589934592 - y - c) % 4294967296
def subhi (x y c : Nat) : Nat := if x < y + c then 1 else 0
theorem sub_parts {x y c : Nat} (hx : x < 4294967296) (hy : y < 4294967296) (hc : c ≤ 1) : sublo x y c + y + c = x + 4294967296 * subhi x y c ∧ sublo x y c < 4294967296 ∧ subhi x y c ≤ 1 := by
  unfold sublo subhi; split <;> omega
theorem add32_fn (x y c : Nat) (w : World) (hx : x < 4294967296) (hy : y < 4294967296) (hc : c ≤ 1) :
    Calls Tryz.prog 120 #[.int .u32 x, .int .u32 y, .int .u32 c] w fun e w' => e = .returned (.tuple #[.int .u32 (lo (x + y + c) : Nat), .int .u32 (hi (x + y + c) : Nat)]) ∧ w' = w :=
  (add32_any x y c w hx hy hc).mono fun e w' ⟨⟨s, d, he, h1, h2, h3⟩, hw⟩ => by
    have e1 : s = lo (x + y + c) := by unfold lo; omega
    have e2 : d = hi (x + y + c) := by unfold hi; omega
    exact ⟨by rw [he, e1, e2], hw.symm⟩
theorem sub32_fn (x y c : Nat) (w : World) (hx : x < 4294967296) (hy : y < 4294967296) (hc : c ≤ 1) :
    Calls Tryz.prog 121 #[.int .u32 x, .int .u32 y, .int .u32 c] w fun e w' => e = .returned (.tuple #[.int .u32 (sublo x y c : Nat), .int .u32 (subhi x y c : Nat)]) ∧ w' = w :=
  (sub32_any x y c w hx hy hc).mono fun e w' ⟨⟨s, d, he, h1, h2, h3⟩, hw⟩ => by
    have := sub_parts hx hy hc
    have e1 : s = sublo x y c := by omega
    have e2 : d = subhi x y c := by omega
    exact ⟨by rw [he, e1, e2], hw.symm⟩
theorem take_set {ys : List Nat} {k x : Nat} (h : k < ys.length) : (ys.set k x).take (k + 1) = ys.take k ++ [x] := by
  rw [List.take_succ_eq_append_getElem (by simpa using h)]; simp [List.take_set_of_le (Nat.le_refl k)]
theorem take_one {xs : List Nat} {k : Nat} (h : k < xs.length) : xs.take (k + 1) = xs.take k ++ [xs[k]?.getD 0] := by
  rw [List.take_succ_eq_append_getElem h, List.getElem?_eq_getElem h]; rfl
theorem val_snoc (xs : List Nat) (d : Nat) : val (xs ++ [d]) = val xs + 4294967296 ^ xs.length * d := by rw [val_append]; simp [val]
theorem sum_step {xs ys zs : List Nat} {k s d c t : Nat} (hx : k < xs.length) (hy : k < ys.length) (hz : k < zs.length) (h : val (zs.take k) + 4294967296 ^ k * c = val (xs.take k) + val (ys.take k))
    (hs : s + 4294967296 * d = xs[k]?.getD 0 + ys[k]?.getD 0 + c) (ht : t = s) : val ((zs.set k t).take (k + 1)) + 4294967296 ^ (k + 1) * d = val (xs.take (k + 1)) + val (ys.take (k + 1)) := by
  subst ht
  rw [take_set hz, take_one hx, take_one hy, val_snoc, val_snoc, val_snoc, List.length_take, List.length_take, List.length_take, Nat.min_eq_left (by omega), Nat.min_eq_left (by omega), Nat.min_eq_left (by omega), Nat.pow_succ]
  have : 4294967296 ^ k * t + 4294967296 ^ k * 4294967296 * d = 4294967296 ^ k * (xs[k]?.getD 0) + 4294967296 ^ k * (ys[k]?.getD 0) + 4294967296 ^ k * c := by
    rw [Nat.mul_assoc, ← Nat.mul_add, hs, Nat.mul_add, Nat.mul_add]
  omega
theorem sum_step' {xs ys zs : List Nat} {k s d c t : Nat} (hx : k < xs.length) (hy : ys.length ≤ k) (hz : k < zs.length) (h : val (zs.take k) + 4294967296 ^ k * c = val (xs.take k) + val (ys.take k))
    (hs : s + 4294967296 * d = xs[k]?.getD 0 + 0 + c) (ht : t = s) : val ((zs.set k t).take (k + 1)) + 4294967296 ^ (k + 1) * d = val (xs.take (k + 1)) + val (ys.take (k + 1)) := by
  subst ht
  rw [List.take_of_length_le (by omega : ys.length ≤ k)] at h
  rw [take_set hz, take_one hx, List.take_of_length_le (by omega : ys.length ≤ k + 1), val_snoc, val_snoc, List.length_take, List.length_take, Nat.min_eq_left (by omega), Nat.min_eq_left (by omega), Nat.pow_succ]
  have : 4294967296 ^ k * t + 4294967296 ^ k * 4294967296 * d = 4294967296 ^ k * (xs[k]?.getD 0) + 4294967296 ^ k * c := by
    rw [Nat.mul_assoc, ← Nat.mul_add, hs, Nat.mul_add, Nat.add_zero]
  omega
theorem set_last {zs : List Nat} {n z : Nat} (h : zs.length = n + 1) : val (zs.set n z) = val (zs.take n) + 4294967296 ^ n * z := by
  have e : zs.set n z = zs.take n ++ [z] := by rw [← take_set (by omega : n < zs.length), List.take_of_length_le (by simp; omega)]
  rw [e, val_snoc, List.length_take, Nat.min_eq_left (by omega)]
end Go.Proofs.YtdmfapgclppmhaaGreatDoor
end
section
namespace Go.Proofs.YtdmfapgclppmhaaGreatDoor
open Go.RowKit
theorem keep_far {w : World} {b n o : Nat} {v : Value} (h : b < n) (k : Nat) (u : Value) (hc : w.cell? ⟨b, o, none⟩ = some v) : (w.setCell ⟨n, k, none⟩ u).drew.cell? ⟨b, o, none⟩ = some v :=
  (World.cell?_setCell_other w ⟨n, k, none⟩ ⟨b, o, none⟩ u (by intro e; injection e with e1 _ _; omega)).trans hc
theorem add_any (A B : Option Addr) (c d : Nat) (xs ys : List Nat) (w : World) (h : Dg w A c xs) (h' : Dg w B d ys) (hl : xs.length ≤ 1048576) (hl' : ys.length ≤ 1048576) :
    Calls Tryz.prog 118 #[.slice A xs.length c, .slice B ys.length d] w fun e w' => ∃ A' c', e = .returned (.slice A' (digs (val xs + val ys)).length c') ∧ Dg w' A' c' (digs (val xs + val ys)) ∧ Below w.heap.size w w' := by
  have l1 := digs_len_le h.2.1
  have l2 := digs_len_le h'.2.1
  have H := qH h
  have H' := qH h'
  clear h h'
  go_enter Tryz.func118, Tryz.ntmps118
  go_wp2_with fail
  refine (short_any A c xs _ H.out (by omega)).mono ?_
  rintro e w' ⟨A1, c1, rfl, h1, rfl⟩
  have H1 := qH h1
  clear h1
  go_wp2_with fail
  refine (short_any B d ys _ H'.out (by omega)).mono ?_
  rintro e w' ⟨B1, d1, rfl, h2, rfl⟩
  have H2 := qH h2
  clear h2
  have V1 := qH (val_digs (val xs))
  have V2 := qH (val_digs (val ys))
  have O1 := qH (ok_digs (val xs))
  have O2 := qH (ok_digs (val ys))
  have HS := qH (show val (digs (val xs)) + val (digs (val ys)) = val xs + val ys from by rw [V1.out, V2.out])
  generalize digs (val xs) = X at *
  generalize digs (val ys) = Y at *
  have hm := fun (n : Nat) (hn : n ≤ 1048576) => run_make_row' (P := Tryz.prog) 22 67 (.int .u32 0) 4 Tryz.underlying22 elem_info rfl .i64 .i64 (n + 1) (by omega) (by omega)
  go_upto_if 17 with fail
  go_cut [0, 1] (fun a b wx => ∃ (A2 B2 : Option Addr) (c2 d2 : Nat) (X2 Y2 : List Nat), a = .slice A2 X2.length c2 ∧ b = .slice B2 Y2.length d2 ∧ Dg w A2 c2 X2 ∧ Dg w B2 d2 Y2 ∧
    ok32 X2 ∧ ok32 Y2 ∧ Hid (val X2 + val Y2 = val xs + val ys) ∧ Y2.length ≤ X2.length ∧ X2.length ≤ 1048576 ∧ w = wx)
  case first =>
    by_cases hlt : X.length < Y.length
    · have hd0 : decide (X.length < Y.length) = true := by simp; omega
      go_wp2_with fail
      go_meet
      exact ⟨B1, A1, d1, c1, Y, X, rfl, rfl, H2.out, H1.out, O2.out, O1.out, (Nat.add_comm _ _).trans HS.out, by omega, by omega, rfl⟩
    · have hd0 : decide (X.length < Y.length) = false := by simp; omega
      go_wp2_with fail
      go_meet
      exact ⟨A1, B1, c1, d1, X, Y, rfl, rfl, H1.out, H2.out, O1.out, O2.out, HS.out, by omega, by omega, rfl⟩
  case rest =>
    clear H1 H2 V1 V2 O1 O2 HS l1 l2
    obtain ⟨A1, B1, c1, d1, X, Y, rfl, rfl, h1, h2, o1, o2, HS, hle, hxl, rfl⟩ := hcut
    have H1 := qH h1
    have H2 := qH h2
    have O1 := qH o1
    have O2 := qH o2
    clear h1 h2 o1 o2
    have hmk := hm X.length (by omega)
    rw [show ((X.length + 1 : Nat) : Int) = (X.length : Int) + 1 by omega] at hmk
    clear hm
    go_wp2
    go_loopw [6, 26] (fun cy i wr => ∃ (k z : Nat) (zs : List Nat), k ≤ Y.length ∧ i = .int .i64 k ∧ cy = .int .u32 z ∧ z ≤ 1 ∧ Row wr w.heap.size zs ∧ Hid (zs.length = X.length + 1) ∧ ok32 zs ∧
      Hid (val (zs.take k) + 4294967296 ^ k * z = val (X.take k) + val (Y.take k)) ∧ Below w.heap.size w wr) (fun _ i _ => Y.length - (intOf i).toNat)
    case atStart => exact ⟨0, 0, List.replicate (X.length + 1) 0, Nat.zero_le _, rfl, rfl, by omega, Row.made _ _, by simp [Hid], ok_zeros _, by simp [Hid, val], (Below.refl _ _).alloc (Nat.le_refl _) _⟩
    case round =>
      obtain ⟨k, z, zs, hk, rfl, rfl, hz, hrow, HL, hok, HE, hbel⟩ := hrel
      by_cases hlt : k < Y.length
      · obtain ⟨b, off, hA, hb, hcx⟩ := H1.out.2.2 (by omega)
        obtain ⟨b', off', hB, hb', hcy⟩ := H2.out.2.2 (by omega)
        have hx := (hbel.cell (p := ⟨b, off + k, none⟩) hb).trans (hcx k (by omega))
        have hy := (hbel.cell (p := ⟨b', off' + k, none⟩) hb').trans (hcy k (by omega))
        have hX := getD_lt O1.out k
        have hY := getD_lt O2.out k
        have hcell := hrow.cell (i := k) (by have := HL.out; omega)
        have hfr := hrow.frozen k
        have hkx : k < X.length := by omega
        have hki : (k : Int) < (X.length : Int) + 1 := by omega
        generalize ex : X[k]?.getD 0 = x at *
        generalize ey : Y[k]?.getD 0 = y at *
        have HX := qH ex
        have HY := qH ey
        clear ex ey
        clear hcx hcy
        subst hA hB
        go_wp2
        have HK1 := qH (fun u => keep_far (w := wr) hb k u hx)
        have HK2 := qH (fun u => keep_far (w := wr) hb' k u hy)
        have HC := qH (fun W => add32_fn x y z W hX hY hz)
        go_region_held3 (fun w' => w'.cell? ⟨b, off + k, none⟩ = some (.int .u32 x) ∧ w'.cell? ⟨b', off' + k, none⟩ = some (.int .u32 y)) (first | exact ⟨HK1.out _, HK2.out _⟩ | assumption | go_keep) ((go_at_call 120; refine (HC.out _).mono ?_; rintro e w' ⟨rfl, rfl⟩))
        go_wp2
        go_roundw
        case rel =>
          have hp := lo_hi (x + y + z)
          have hq := lo_lt (x + y + z)
          exact ⟨k + 1, hi (x + y + z), zs.set k (lo (x + y + z)), hlt, by go_num, rfl, by omega, (hrow.set_ k _).drew, by simp only [List.length_set]; exact HL, ok_set hok hq k,
            sum_step hkx hlt (by have := HL.out; omega) HE.out (by rw [HX.out, HY.out]; exact hp) rfl, (hbel.setCell (by simp) _).drew⟩
        case measure => simp [intOf]; omega
      · have hk' : k = Y.length := by omega
        subst hk'
        clear hlt
        go_wp2
        go_loopw [6, 51] (fun cy i wr => ∃ (k z : Nat) (zs : List Nat), k ≤ X.length - Y.length ∧ i = .int .i64 k ∧ cy = .int .u32 z ∧ z ≤ 1 ∧ Row wr w.heap.size zs ∧ Hid (zs.length = X.length + 1) ∧ ok32 zs ∧
          Hid (val (zs.take (Y.length + k)) + 4294967296 ^ (Y.length + k) * z = val (X.take (Y.length + k)) + val (Y.take (Y.length + k))) ∧ Below w.heap.size w wr) (fun _ i _ => (X.length - Y.length) - (intOf i).toNat)
        case atStart => exact ⟨0, z, zs, Nat.zero_le _, rfl, rfl, hz, hrow, HL, hok, HE, hbel⟩
        case round =>
          clear hbel hok hrow HE HL hz
          obtain ⟨k, z, zs, hk, rfl, rfl, hz, hrow, HL, hok, HE, hbel⟩ := hrel
          by_cases hlt : k < X.length - Y.length
          · obtain ⟨b, off, hA, hb, hcx⟩ := H1.out.2.2 (by omega)
            have hx := (hbel.cell (p := ⟨b, off + (Y.length + k), none⟩) hb).trans (hcx (Y.length + k) (by omega))
            have hX := getD_lt O1.out (Y.length + k)
            have hcell := hrow.cell (i := Y.length + k) (by have := HL.out; omega)
            have hfr := hrow.frozen (Y.length + k)
            have hkx : Y.length + k < X.length := by omega
            have hki : (Y.length : Int) + (k : Int) < (X.length : Int) + 1 := by omega
            generalize ex : X[Y.length + k]?.getD 0 = x at *
            have HX := qH ex
            clear ex hcx
            subst hA
            go_wp2_with fail
            refine (add32_fn x 0 z _ hX (by omega) hz).mono ?_
            rintro e w' ⟨rfl, rfl⟩
            go_wp2
            go_roundw
            case rel =>
              have hp := lo_hi (x + 0 + z)
              have hq := lo_lt (x + 0 + z)
              have hss := sum_step' (k := Y.length + k) (ys := Y) hkx (by omega) (by have := HL.out; omega) HE.out (by rw [HX.out]; exact hp) rfl
              rw [Nat.add_assoc] at hss
              exact ⟨k + 1, hi (x + 0 + z), zs.set (Y.length + k) (lo (x + 0 + z)), hlt, by go_num, rfl, by omega, hrow.set_ _ _, by simp only [List.length_set]; exact HL, ok_set hok hq _,
                hss, hbel.setCell (by simp) _⟩
            case measure => simp [intOf]; omega
          · have hk' : X.length - Y.length = k := by omega
            have hfr := hrow.frozen X.length
            have hcell := hrow.cell (i := X.length) (by have := HL.out; omega)
            clear hlt
            go_wp2_with fail
            have hrow' := hrow.set_ X.length z
            have hok' := ok_set hok (x := z) (by omega) X.length
            have hle' := HL.out
            have hd := hrow'.dg hok' (c := X.length + 1) (by simp; omega)
            have HV := qH (show val (zs.set X.length z) = val xs + val ys from by
              rw [set_last HL.out, ← HS.out]
              have := HE.out
              rw [show Y.length + k = X.length by omega, List.take_of_length_le (Nat.le_refl X.length), List.take_of_length_le (by omega : Y.length ≤ X.length)] at this
              exact this)
            have HD := qH hd
            clear hd hrow' hok' hle'
            refine (short_n HD.out (by simp only [List.length_set]; have := HL.out; omega) (by simp only [List.length_set]; exact HL.out.symm)).mono ?_
            rintro e w' ⟨A2, c2, rfl, h2, rfl⟩
            rw [HV.out] at h2
            rw [HV.out]
            have HR := qH h2
            clear h2
            go_wp2
            go_ret
            exact ⟨A2, c2, rfl, HR.out, hbel.setCell (by simp) _⟩
theorem sub_step {xs ys zs : List Nat} {k s d c t : Nat} (hx : k < xs.length) (hy : k < ys.length) (hz : k < zs.length) (h : val (xs.take k) + 4294967296 ^ k * c = val (zs.take k) + val (ys.take k))
    (hs : s + ys[k]?.getD 0 + c = xs[k]?.getD 0 + 4294967296 * d) (ht : t = s) : val (xs.take (k + 1)) + 4294967296 ^ (k + 1) * d = val ((zs.set k t).take (k + 1)) + val (ys.take (k + 1)) := by
  subst ht
  rw [take_set hz, take_one hx, take_one hy, val_snoc, val_snoc, val_snoc, List.length_take, List.length_take, List.length_take, Nat.min_eq_left (by omega), Nat.min_eq_left (by omega), Nat.min_eq_left (by omega), Nat.pow_succ]
  have : 4294967296 ^ k * (xs[k]?.getD 0) + 4294967296 ^ k * 4294967296 * d = 4294967296 ^ k * t + 4294967296 ^ k * (ys[k]?.getD 0) + 4294967296 ^ k * c := by
    rw [Nat.mul_assoc, ← Nat.mul_add, ← hs, Nat.mul_add, Nat.mul_add]
  omega
theorem sub_step' {xs ys zs : List Nat} {k s d c t : Nat} (hx : k < xs.length) (hy : ys.length ≤ k) (hz : k < zs.length) (h : val (xs.take k) + 4294967296 ^ k * c = val (zs.take k) + val (ys.take k))
    (hs : s + 0 + c = xs[k]?.getD 0 + 4294967296 * d) (ht : t = s) : val (xs.take (k + 1)) + 4294967296 ^ (k + 1) * d = val ((zs.set k t).take (k + 1)) + val (ys.take (k + 1)) := by
  subst ht
  rw [List.take_of_length_le (by omega : ys.length ≤ k)] at h
  rw [take_set hz, take_one hx, List.take_of_length_le (by omega : ys.length ≤ k + 1), val_snoc, val_snoc, List.length_take, List.length_take, Nat.min_eq_left (by omega), Nat.min_eq_left (by omega), Nat.pow_succ]
  have : 4294967296 ^ k * (xs[k]?.getD 0) + 4294967296 ^ k * 4294967296 * d = 4294967296 ^ k * t + 4294967296 ^ k * c := by
    rw [Nat.mul_assoc, ← Nat.mul_add, ← hs, Nat.mul_add, Nat.add_zero]
  omega
theorem sub_end {x y z p d : Nat} (h : x + p * d = z + y) (hz : z < p) (hle : y ≤ x) : z = x - y := by
  rcases d with _ | d
  · omega
  · have : p ≤ p * (d + 1) := Nat.le_mul_of_pos_right p (by omega)
    omega
theorem sub_yes (A B : Option Addr) (c d : Nat) (xs ys : List Nat) (w : World) (h : Dg w A c xs) (h' : Dg w B d ys) (hl : xs.length ≤ 1048576) (hl' : ys.length ≤ 1048576) (hge : val ys ≤ val xs) :
    Calls Tryz.prog 119 #[.slice A xs.length c, .slice B ys.length d] w fun e w' => ∃ A' c', e = .returned (.tuple #[.slice A' (digs (val xs - val ys)).length c', .bool true]) ∧ Dg w' A' c' (digs (val xs - val ys)) ∧ Below w.heap.size w w' := by
  have l1 := digs_len_le h.2.1
  have l2 := digs_len_le h'.2.1
  have H := qH h
  have H' := qH h'
  have HF : Hid (cmpi (val xs) (val ys) = 0 ∨ cmpi (val xs) (val ys) = 1) := by
    rcases Nat.lt_or_ge (val ys) (val xs) with h | h
    · exact .inr (cmpi_gt h)
    · exact .inl (cmpi_eq (by omega))
  have hle := digs_len_mono _ _ hge
  have HG := qH hge
  clear h h' hge
  go_enter Tryz.func119, Tryz.ntmps119
  go_wp2_with fail
  refine (short_any A c xs _ H.out (by omega)).mono ?_
  rintro e w' ⟨A1, c1, rfl, h1, rfl⟩
  have H1 := qH h1
  clear h1
  go_wp2_with fail
  refine (short_any B d ys _ H'.out (by omega)).mono ?_
  rintro e w' ⟨B1, d1, rfl, h2, rfl⟩
  have H2 := qH h2
  clear h2
  go_wp2_with fail
  refine (cmp_any _ _ _ _ _ _ _ H1.out H2.out (by omega) (by omega)).mono ?_
  rw [val_digs, val_digs]
  rintro e w' ⟨rfl, nq, rfl⟩
  have hc0 : 0 ≤ cmpi (val xs) (val ys) := by rcases HF.out with h | h <;> omega
  generalize cmpi (val xs) (val ys) = q at *
  have V1 := qH (val_digs (val xs))
  have V2 := qH (val_digs (val ys))
  have O1 := qH (ok_digs (val xs))
  have O2 := qH (ok_digs (val ys))
  generalize digs (val xs) = X at *
  generalize digs (val ys) = Y at *
  have hmk := run_make_row' (P := Tryz.prog) 22 67 (.int .u32 0) 4 Tryz.underlying22 elem_info rfl .i64 .i64 X.length (by omega) (by omega)
  have hq : decide (q < 0) = false := by simp; omega
  go_wp2
  go_loopw [7, 23] (fun cy i wr => ∃ (k z : Nat) (zs : List Nat), k ≤ Y.length ∧ i = .int .i64 k ∧ cy = .int .u32 z ∧ z ≤ 1 ∧ Row wr w.heap.size zs ∧ Hid (zs.length = X.length) ∧ ok32 zs ∧
    Hid (val (X.take k) + 4294967296 ^ k * z = val (zs.take k) + val (Y.take k)) ∧ Below w.heap.size w wr) (fun _ i _ => Y.length - (intOf i).toNat)
  case atStart => exact ⟨0, 0, List.replicate X.length 0, Nat.zero_le _, rfl, rfl, by omega, Row.made _ _, by simp [Hid], ok_zeros _, by simp [Hid, val], (below_drewN (Below.refl _ _) nq).alloc (by simp) _⟩
  case round =>
    obtain ⟨k, z, zs, hk, rfl, rfl, hz, hrow, HL, hok, HE, hbel⟩ := hrel
    by_cases hlt : k < Y.length
    · obtain ⟨b, off, hA, hb, hcx⟩ := H1.out.2.2 (by omega)
      obtain ⟨b', off', hB, hb', hcy⟩ := H2.out.2.2 (by omega)
      have hx := (hbel.cell (p := ⟨b, off + k, none⟩) hb).trans (hcx k (by omega))
      have hy := (hbel.cell (p := ⟨b', off' + k, none⟩) hb').trans (hcy k (by omega))
      have hX := getD_lt O1.out k
      have hY := getD_lt O2.out k
      have hcell := hrow.cell (i := k) (by have := HL.out; omega)
      have hfr := hrow.frozen k
      have hkx : k < X.length := by omega
      have hki : (k : Int) < (X.length : Int) := by omega
      generalize ex : X[k]?.getD 0 = x at *
      generalize ey : Y[k]?.getD 0 = y at *
      have HX := qH ex
      have HY := qH ey
      clear ex ey hcx hcy
      subst hA hB
      go_wp2
      have HK1 := qH (fun u => keep_far (w := wr) hb k u hx)
      have HK2 := qH (fun u => keep_far (w := wr) hb' k u hy)
      have HC := qH (fun W => sub32_fn x y z W hX hY hz)
      go_region_held3 (fun w' => w'.cell? ⟨b, off + k, none⟩ = some (.int .u32 x) ∧ w'.cell? ⟨b', off' + k, none⟩ = some (.int .u32 y)) (first | exact ⟨HK1.out _, HK2.out _⟩ | assumption | go_keep) ((go_at_call 121; refine (HC.out _).mono ?_; rintro e w' ⟨rfl, rfl⟩))
      go_wp2
      go_roundw
      case rel =>
        obtain ⟨hp, hq1, hq2⟩ := sub_parts hX hY hz
        exact ⟨k + 1, subhi x y z, zs.set k (sublo x y z), hlt, by go_num, rfl, by omega, (hrow.set_ k _).drew, by simp only [List.length_set]; exact HL, ok_set hok hq1 k,
          sub_step hkx hlt (by have := HL.out; omega) HE.out (by rw [HX.out, HY.out]; exact hp) rfl, (hbel.setCell (by simp) _).drew⟩
      case measure => simp [intOf]; omega
    · have hk' : k = Y.length := by omega
      subst hk'
      clear hlt
      go_wp2
      go_loopw [7, 48] (fun cy i wr => ∃ (k z : Nat) (zs : List Nat), k ≤ X.length - Y.length ∧ i = .int .i64 k ∧ cy = .int .u32 z ∧ z ≤ 1 ∧ Row wr w.heap.size zs ∧ Hid (zs.length = X.length) ∧ ok32 zs ∧
        Hid (val (X.take (Y.length + k)) + 4294967296 ^ (Y.length + k) * z = val (zs.take (Y.length + k)) + val (Y.take (Y.length + k))) ∧ Below w.heap.size w wr) (fun _ i _ => (X.length - Y.length) - (intOf i).toNat)
      case atStart => exact ⟨0, z, zs, Nat.zero_le _, rfl, rfl, hz, hrow, HL, hok, HE, hbel⟩
      case round =>
        clear hbel hok hrow HE HL hz
        obtain ⟨k, z, zs, hk, rfl, rfl, hz, hrow, HL, hok, HE, hbel⟩ := hrel
        by_cases hlt : k < X.length - Y.length
        · obtain ⟨b, off, hA, hb, hcx⟩ := H1.out.2.2 (by omega)
          have hx := (hbel.cell (p := ⟨b, off + (Y.length + k), none⟩) hb).trans (hcx (Y.length + k) (by omega))
          have hX := getD_lt O1.out (Y.length + k)
          have hcell := hrow.cell (i := Y.length + k) (by have := HL.out; omega)
          have hfr := hrow.frozen (Y.length + k)
          have hkx : Y.length + k < X.length := by omega
          have hki : (Y.length : Int) + (k : Int) < (X.length : Int) := by omega
          generalize ex : X[Y.length + k]?.getD 0 = x at *
          have HX := qH ex
          clear ex hcx
          subst hA
          go_wp2_with fail
          refine (sub32_fn x 0 z _ hX (by omega) hz).mono ?_
          rintro e w' ⟨rfl, rfl⟩
          go_wp2
          go_roundw
          case rel =>
            obtain ⟨hp, hq1, hq2⟩ := sub_parts (y := 0) hX (by omega) hz
            have hss := sub_step' (k := Y.length + k) (ys := Y) hkx (by omega) (by have := HL.out; omega) HE.out (by rw [HX.out]; exact hp) rfl
            rw [Nat.add_assoc] at hss
            exact ⟨k + 1, subhi x 0 z, zs.set (Y.length + k) (sublo x 0 z), hlt, by go_num, rfl, by omega, hrow.set_ _ _, by simp only [List.length_set]; exact HL, ok_set hok hq1 _,
              hss, hbel.setCell (by simp) _⟩
          case measure => simp [intOf]; omega
        · have hk' : X.length - Y.length = k := by omega
          clear hlt
          go_wp2_with fail
          have hle' := HL.out
          have hd := hrow.dg hok (c := X.length) (by omega)
          have HV := qH (show val zs = val xs - val ys from by
            have := HE.out
            rw [show Y.length + k = X.length by omega, List.take_of_length_le (Nat.le_refl X.length), List.take_of_length_le (by omega : Y.length ≤ X.length), List.take_of_length_le (by omega : zs.length ≤ X.length), V1.out, V2.out] at this
            exact sub_end this (by rw [← hle']; exact val_lt hok) HG.out)
          have HD := qH hd
          clear hd hle'
          refine (short_n HD.out (by have := HL.out; omega) HL.out.symm).mono ?_
          rintro e w' ⟨A2, c2, rfl, h2, rfl⟩
          rw [HV.out] at h2
          rw [HV.out]
          have HR := qH h2
          clear h2
          go_wp2
          go_ret2
          exact ⟨A2, c2, rfl, HR.out, hbel⟩
theorem Row.set_int {w : World} {g : Nat} {ys : List Nat} (h : Row w g ys) {i x : Nat} {v : Int} (hv : v = (x : Int)) : Row (w.setCell ⟨g, i, none⟩ (.int .u32 v)) g (ys.set i x) := by rw [hv]; exact h.set_ i x
theorem get_set_other {zs : List Nat} {i j t : Nat} (h : i ≠ j) : (zs.set i t)[j]? = zs[j]? := by rw [List.getElem?_set]; simp [h]
end Go.Proofs.YtdmfapgclppmhaaGreatDoor
end
section
namespace Go.Proofs.YtdmfapgclppmhaaGreatDoor
open Go.RowKit
def Live (w0 w : World) (L : List (Option Addr × Nat × List Nat)) : Prop := Below w0.heap.size w0 w ∧ ∀ t, t ∈ L → Dg w t.1 t.2.1 t.2.2
section
variable {w0 w w' : World} {L : List (Option Addr × Nat × List Nat)} {A B : Option Addr} {c d n m : Nat} {xs ys : List Nat} {x y : Nat}
theorem below_step (h : Below w0.heap.size w0 w) (hb : Below w.heap.size w w') : Below w0.heap.size w0 w' := h.trans (hb.mono h.size)
theorem Live.get (h : Live w0 w L) (hm : (A, c, xs) ∈ L) : Dg w A c xs := h.2 _ hm
theorem Live.step (h : Live w0 w L) (hb : Below w.heap.size w w') : Live w0 w' L := ⟨below_step h.1 hb, fun t ht => (h.2 t ht).below hb⟩
theorem Live.add (h : Live w0 w L) (hd : Dg w A c xs) : Live w0 w ((A, c, xs) :: L) := ⟨h.1, fun t ht => by
  rcases List.mem_cons.1 ht with rfl | ht
  · exact hd
  · exact h.2 t ht⟩
theorem Live.drewN (h : Live w0 w L) (k : Nat) : Live w0 (w.drewN k) L := h.step (below_drewN (Below.refl _ _) k)
theorem digs_add_len (a b : Nat) : (digs (a + b)).length ≤ max (digs a).length (digs b).length + 1 := by
  have ha := val_lt (ok_digs a)
  have hb := val_lt (ok_digs b)
  rw [val_digs] at ha hb
  have key : ∀ (p q r : Nat), a < 4294967296 ^ p → b < 4294967296 ^ q → p ≤ r → q ≤ r → a + b < 4294967296 ^ (r + 1) := by
    intro p q r h1 h2 h3 h4
    have e1 := Nat.pow_le_pow_right (n := 4294967296) (by omega) h3
    have e2 := Nat.pow_le_pow_right (n := 4294967296) (by omega) h4
    rw [Nat.pow_succ]; omega
  exact digs_len_lt (key _ _ _ ha hb (Nat.le_max_left _ _) (Nat.le_max_right _ _))
theorem digs_mul_len (a b : Nat) : (digs (a * b)).length ≤ (digs a).length + (digs b).length := by
  have ha := val_lt (ok_digs a)
  have hb := val_lt (ok_digs b)
  rw [val_digs] at ha hb
  apply digs_len_lt
  rw [Nat.pow_add]
  rcases Nat.eq_zero_or_pos b with h | h
  · subst h; rw [Nat.mul_zero]; exact Nat.mul_pos (Nat.pow_pos (by omega)) (Nat.pow_pos (by omega))
  · exact Nat.lt_of_lt_of_le (Nat.mul_lt_mul_of_pos_right ha h) (Nat.mul_le_mul_left _ (Nat.le_of_lt hb))
theorem digs_sub_len (a b : Nat) : (digs (a - b)).length ≤ (digs a).length := digs_len_mono _ _ (Nat.sub_le _ _)
theorem from_l {i : Int} {k : Nat} (hL : Live w0 w L) (hi : i = (k : Int)) (hk : k < 18446744073709551616) :
    Calls Tryz.prog 94 #[.int .u64 i] w fun e w' => ∃ A' c', e = .returned (.slice A' (digs k).length c') ∧ Live w0 w' ((A', c', digs k) :: L) := by
  subst hi
  exact (from_any k w hk).mono fun e w' ⟨A', c', he, hd, hb⟩ => ⟨A', c', he, (hL.step hb).add hd⟩
end
end Go.Proofs.YtdmfapgclppmhaaGreatDoor
end
section
namespace Go.Proofs.YtdmfapgclppmhaaGreatDoor
open Go.RowKit
theorem two_pow_split (p : Nat) (h : p ≤ 32) : 2 ^ p * 2 ^ (32 - p) = 4294967296 := by rw [← Nat.pow_add, show p + (32 - p) = 32 by omega]
theorem shl_parts (x c p : Nat) (hx : x < 4294967296) (hc : c < 2 ^ p) (hp : p < 32) :
    (x * 2 ^ p % 4294967296 + c) + 4294967296 * (x / 2 ^ (32 - p)) = x * 2 ^ p + c ∧ x * 2 ^ p % 4294967296 + c < 4294967296 ∧ x / 2 ^ (32 - p) < 2 ^ p ∧ x * 2 ^ p % 4294967296 % 2 ^ p = 0 := by
  have hs := two_pow_split p (by omega)
  have hpp : 0 < 2 ^ p := Nat.pow_pos (by omega)
  have hqq : 0 < 2 ^ (32 - p) := Nat.pow_pos (by omega)
  generalize 2 ^ p = P at *
  generalize 2 ^ (32 - p) = Q at *
  have e1 : x * P % 4294967296 = x % Q * P := by rw [← hs, Nat.mul_comm P Q, Nat.mul_mod_mul_right]
  have e2 : Q * (x / Q) + x % Q = x := Nat.div_add_mod x Q
  have h3 : x % Q < Q := Nat.mod_lt _ hqq
  rw [e1, ← hs]
  refine ⟨?_, ?_, ?_, ?_⟩
  · have : x * P = P * Q * (x / Q) + x % Q * P := by
      conv => lhs; rw [← e2]
      rw [Nat.add_mul, Nat.mul_comm (Q * (x / Q)) P, ← Nat.mul_assoc]
    omega
  · have : x % Q * P + P ≤ P * Q := by
      calc x % Q * P + P = (x % Q + 1) * P := by rw [Nat.add_mul, Nat.one_mul]
        _ ≤ Q * P := Nat.mul_le_mul_right _ h3
        _ = P * Q := Nat.mul_comm _ _
    omega
  · rw [Nat.div_lt_iff_lt_mul hqq, hs]; exact hx
  · exact Nat.mul_mod_left _ _
theorem shl_or (x c p : Nat) (hx : x < 4294967296) (hc : c < 2 ^ p) (hp : p < 32) :
    bits BinOp.or IntKind.u32 (((x : Int) * 2 ^ p) % 4294967296) (c : Int) = ((x * 2 ^ p % 4294967296 + c : Nat) : Int) := by
  obtain ⟨_, h2, _, h4⟩ := shl_parts x c p hx hc hp
  have e : ((x : Int) * 2 ^ p) % 4294967296 = ((x * 2 ^ p % 4294967296 : Nat) : Int) := by
    rw [Int.natCast_emod, Int.natCast_mul, Int.natCast_pow]; rfl
  rw [e, u32_or_nat _ _ (Nat.mod_lt _ (by omega)) (by omega), nat_join p _ _ h4 hc]
theorem shl_carry (x p : Nat) : (x : Int) / 2 ^ (32 - p) = ((x / 2 ^ (32 - p) : Nat) : Int) := by
  rw [Int.natCast_ediv, Int.natCast_pow]; rfl
theorem shl_step {zs xs : List Nat} {k W p c t d : Nat} (hz : W + k < zs.length) (hk : k < xs.length) (h : val (zs.take (W + k)) + 4294967296 ^ (W + k) * c = 4294967296 ^ W * (val (xs.take k) * 2 ^ p))
    (hs : t + 4294967296 * d = (xs[k]?.getD 0) * 2 ^ p + c) : val ((zs.set (W + k) t).take (W + (k + 1))) + 4294967296 ^ (W + (k + 1)) * d = 4294967296 ^ W * (val (xs.take (k + 1)) * 2 ^ p) := by
  rw [← Nat.add_assoc, take_set hz, take_one hk, val_snoc, val_snoc, List.length_take, List.length_take, Nat.min_eq_left (by omega), Nat.min_eq_left (by omega), Nat.pow_succ, Nat.add_mul, Nat.mul_add, ← h]
  have e1 : 4294967296 ^ W * (4294967296 ^ k * (xs[k]?.getD 0) * 2 ^ p) = 4294967296 ^ (W + k) * (xs[k]?.getD 0 * 2 ^ p) := by
    rw [Nat.pow_add, Nat.mul_assoc, Nat.mul_assoc]
  have e2 : 4294967296 ^ (W + k) * t + 4294967296 ^ (W + k) * 4294967296 * d = 4294967296 ^ (W + k) * (xs[k]?.getD 0 * 2 ^ p) + 4294967296 ^ (W + k) * c := by
    rw [Nat.mul_assoc, ← Nat.mul_add, hs, Nat.mul_add]
  rw [e1]
  omega
theorem pow_parts (n : Nat) : 4294967296 ^ (n / 32) * 2 ^ (n % 32) = 2 ^ n := by
  have e : (4294967296 : Nat) = 2 ^ 32 := rfl
  rw [e, ← Nat.pow_mul, ← Nat.pow_add, show 32 * (n / 32) + n % 32 = n by omega]
theorem shl_any (A : Option Addr) (c : Nat) (xs : List Nat) (n : Nat) (w : World) (h : Dg w A c xs) (hl : xs.length ≤ 1048576) (hn : n ≤ 100000) :
    Calls Tryz.prog 113 #[.slice A xs.length c, .int .i64 n] w fun e w' => ∃ A' c', e = .returned (.tuple #[.slice A' (digs (val xs * 2 ^ n)).length c', .bool true]) ∧ Dg w' A' c' (digs (val xs * 2 ^ n)) ∧ Below w.heap.size w w' := by
  have l1 := digs_len_le h.2.1
  have H := qH h
  have HP := qH (pow_parts n)
  clear h
  have d0 : decide ((n : Int) < 0) = false := by simp
  have d1 : decide (100000 < (n : Int)) = false := by simp; omega
  go_enter Tryz.func113, Tryz.ntmps113
  go_wp2_with fail
  refine (short_any A c xs _ H.out (by omega)).mono ?_
  rintro e w' ⟨A1, c1, rfl, h1, rfl⟩
  have H1 := qH h1
  clear h1
  have V1 := qH (val_digs (val xs))
  have O1 := qH (ok_digs (val xs))
  generalize digs (val xs) = X at *
  have hmk := run_make_row' (P := Tryz.prog) 22 67 (.int .u32 0) 4 Tryz.underlying22 elem_info rfl .i64 .i64 (n / 32 + X.length + 1) (by omega) (by omega)
  rw [show ((n / 32 + X.length + 1 : Nat) : Int) = (n : Int) / 32 + (X.length : Int) + 1 by omega] at hmk
  go_wp2
  go_loopw [9, 31] (fun cy i wr => ∃ (k z : Nat) (zs : List Nat), k ≤ X.length ∧ i = .int .i64 k ∧ cy = .int .u32 z ∧ Hid (z < 2 ^ (n % 32)) ∧ z < 4294967296 ∧ Row wr w.heap.size zs ∧ Hid (zs.length = n / 32 + X.length + 1) ∧ ok32 zs ∧
    Hid (val (zs.take (n / 32 + k)) + 4294967296 ^ (n / 32 + k) * z = 4294967296 ^ (n / 32) * (val (X.take k) * 2 ^ (n % 32))) ∧ Below w.heap.size w wr) (fun _ i _ => X.length - (intOf i).toNat)
  case atStart => exact ⟨0, 0, List.replicate (n / 32 + X.length + 1) 0, Nat.zero_le _, rfl, rfl, Nat.pow_pos (by omega), by omega, Row.made _ _, by simp [Hid], ok_zeros _, by simp [Hid, val, List.take_replicate, val_zeros], (Below.refl _ _).alloc (Nat.le_refl _) _⟩
  case round =>
    obtain ⟨k, z, zs, hk, rfl, rfl, hz, hz', hrow, HL, hok, HE, hbel⟩ := hrel
    by_cases hlt : k < X.length
    · obtain ⟨b, off, hA, hb, hcx⟩ := H1.out.2.2 (by omega)
      have hx := (hbel.cell (p := ⟨b, off + k, none⟩) hb).trans (hcx k (by omega))
      have hX := getD_lt O1.out k
      have hcell := hrow.cell (i := n / 32 + k) (by have := HL.out; omega)
      have hfr := hrow.frozen (n / 32 + k)
      have hki : (n : Int) / 32 + (k : Int) < (n : Int) / 32 + (X.length : Int) + 1 := by omega
      have hk0 : (0 : Int) ≤ (n : Int) / 32 + (k : Int) := by omega
      generalize ex : X[k]?.getD 0 = x at *
      have HX := qH ex
      clear ex hcx
      subst hA
      go_wp2
      go_roundw
      case rel =>
        obtain ⟨g1, g2, g3, _⟩ := shl_parts x z (n % 32) hX hz (by omega)
        have e1 := shl_or x z (n % 32) hX hz (by omega)
        have e2 := shl_carry x (n % 32)
        have hpl : 2 ^ (n % 32) < 4294967296 := Nat.pow_lt_pow_right (by omega) (by omega : n % 32 < 32)
        exact ⟨k + 1, x / 2 ^ (32 - n % 32), zs.set (n / 32 + k) (x * 2 ^ (n % 32) % 4294967296 + z), hlt, by go_num, by rw [e2], g3, by omega, hrow.set_int e1, by simp only [List.length_set]; exact HL, ok_set hok g2 _,
          shl_step (by have := HL.out; omega) hlt HE.out (by rw [HX.out]; exact g1), hbel.setCell (by simp) _⟩
      case measure => simp [intOf]; omega
    · have hk' : k = X.length := by omega
      subst hk'
      have hcell := hrow.cell (i := n / 32 + X.length) (by have := HL.out; omega)
      have hfr := hrow.frozen (n / 32 + X.length)
      have hki : (n : Int) / 32 + (X.length : Int) < (n : Int) / 32 + (X.length : Int) + 1 := by omega
      have hk0 : (0 : Int) ≤ (n : Int) / 32 + (X.length : Int) := by omega
      clear hlt
      go_wp2_with fail
      have hrow' := hrow.set_ (n / 32 + X.length) z
      have hok' := ok_set hok (x := z) hz' (n / 32 + X.length)
      have HV := qH (show val (zs.set (n / 32 + X.length) z) = val xs * 2 ^ n from by
        rw [set_last HL.out]
        have := HE.out
        rw [List.take_of_length_le (Nat.le_refl X.length), V1.out] at this
        rw [this, ← HP.out, Nat.mul_left_comm])
      have HD := qH (hrow'.dg hok' (c := n / 32 + X.length + 1) (by have := HL.out; simp; omega))
      clear hrow' hok'
      refine (short_n HD.out (by simp only [List.length_set]; have := HL.out; omega) (by simp only [List.length_set]; exact HL.out.symm)).mono ?_
      rintro e w' ⟨A2, c2, rfl, h2, rfl⟩
      rw [HV.out] at h2
      rw [HV.out]
      have HR := qH h2
      clear h2
      go_wp2
      go_ret2
      exact ⟨A2, c2, rfl, HR.out, hbel.setCell (by simp) _⟩
theorem val_drop (xs : List Nat) (h : ok32 xs) (W : Nat) : val (xs.drop W) = val xs / 4294967296 ^ W := by
  rcases Nat.lt_or_ge xs.length W with hl | hl
  · rw [List.drop_eq_nil_of_le (by omega)]
    have h1 := val_lt h
    have h2 := Nat.pow_le_pow_right (n := 4294967296) (by omega) (show xs.length ≤ W by omega)
    rw [Nat.div_eq_of_lt (by omega)]; rfl
  · have e : val xs = val (xs.take W) + 4294967296 ^ W * val (xs.drop W) := by
      conv => lhs; rw [← List.take_append_drop W xs, val_append]
      rw [List.length_take, Nat.min_eq_left hl]
    have h1 : val (xs.take W) < 4294967296 ^ W := by
      have := val_lt (xs := xs.take W) (fun x hx => h x (List.mem_of_mem_take hx))
      rwa [List.length_take, Nat.min_eq_left hl] at this
    rw [e, Nat.add_mul_div_left _ _ (Nat.pow_pos (by omega)), Nat.div_eq_of_lt h1, Nat.zero_add]
theorem val_drop_cons {xs : List Nat} {k : Nat} (h : k < xs.length) : val (xs.drop k) = xs[k]?.getD 0 + 4294967296 * val (xs.drop (k + 1)) := by
  rw [List.drop_eq_getElem_cons h, List.getElem?_eq_getElem h]; rfl
theorem val_mod {xs : List Nat} (h : ok32 xs) (k : Nat) : val (xs.drop k) % 4294967296 = xs[k]?.getD 0 := by
  rcases Nat.lt_or_ge k xs.length with hk | hk
  · rw [val_drop_cons hk]; have := getD_lt h k; omega
  · rw [List.drop_eq_nil_of_le hk, List.getElem?_eq_none hk]; rfl
theorem shr_math (y R P Q : Nat) (hs : P * Q = 4294967296) (hP : 0 < P) : (y + 4294967296 * R) / P = (y / P + R * Q % 4294967296) + 4294967296 * (R / P) := by
  have e1 : (y + 4294967296 * R) / P = y / P + Q * R := by
    rw [← hs, Nat.mul_assoc, Nat.add_mul_div_left _ _ hP]
  have e2 : R * Q = 4294967296 * (R / P) + R * Q % 4294967296 := by
    have hq : R * Q / 4294967296 = R / P := by
      have hQ : 0 < Q := Nat.pos_of_ne_zero (by rintro rfl; simp at hs)
      rw [← hs, Nat.mul_div_mul_right _ _ hQ]
    have := Nat.div_add_mod (R * Q) 4294967296
    rw [hq] at this
    exact this.symm
  rw [e1, Nat.mul_comm Q R]
  omega
theorem shr_digit (y z p : Nat) (hy : y < 4294967296) (hp : p < 32) : y / 2 ^ p + z * 2 ^ (32 - p) % 4294967296 < 4294967296 ∧ z * 2 ^ (32 - p) % 4294967296 % 2 ^ (32 - p) = 0 ∧ y / 2 ^ p < 2 ^ (32 - p) := by
  have hs := two_pow_split p (by omega)
  have hpp : 0 < 2 ^ p := Nat.pow_pos (by omega)
  have hqq : 0 < 2 ^ (32 - p) := Nat.pow_pos (by omega)
  generalize 2 ^ p = P at *
  generalize 2 ^ (32 - p) = Q at *
  have e1 : z * Q % 4294967296 = z % P * Q := by rw [← hs, Nat.mul_mod_mul_right]
  have h3 : z % P < P := Nat.mod_lt _ hpp
  have h4 : y / P < Q := by rw [Nat.div_lt_iff_lt_mul hpp, Nat.mul_comm, hs]; exact hy
  rw [e1]
  refine ⟨?_, Nat.mul_mod_left _ _, h4⟩
  have : z % P * Q + Q ≤ P * Q := by
    calc z % P * Q + Q = (z % P + 1) * Q := by rw [Nat.add_mul, Nat.one_mul]
      _ ≤ P * Q := Nat.mul_le_mul_right _ h3
  omega
theorem shr_or (y z p : Nat) (hy : y < 4294967296) (hp : p < 32) :
    bits BinOp.or IntKind.u32 ((y : Int) / 2 ^ p) (((z : Int) * 2 ^ (32 - p)) % 4294967296) = ((y / 2 ^ p + z * 2 ^ (32 - p) % 4294967296 : Nat) : Int) := by
  obtain ⟨h1, h2, h3⟩ := shr_digit y z p hy hp
  have e : ((z : Int) * 2 ^ (32 - p)) % 4294967296 = ((z * 2 ^ (32 - p) % 4294967296 : Nat) : Int) := by
    rw [Int.natCast_emod, Int.natCast_mul, Int.natCast_pow]; rfl
  have e' : (y : Int) / 2 ^ p = ((y / 2 ^ p : Nat) : Int) := by rw [Int.natCast_ediv, Int.natCast_pow]; rfl
  rw [e, e', u32_or_nat _ _ (Nat.lt_of_le_of_lt (Nat.div_le_self _ _) hy) (Nat.mod_lt _ (by omega)), Nat.or_comm, nat_join (32 - p) _ _ h2 h3, Nat.add_comm]
theorem shr_step {zs ys : List Nat} {k p t : Nat} (hz : k < zs.length) (hk : k < ys.length) (hok : ok32 ys) (hp : p < 32) (h : val (zs.take k) + 4294967296 ^ k * (val (ys.drop k) / 2 ^ p) = val ys / 2 ^ p)
    (ht : t = ys[k]?.getD 0 / 2 ^ p + (ys[k + 1]?.getD 0) * 2 ^ (32 - p) % 4294967296) : val ((zs.set k t).take (k + 1)) + 4294967296 ^ (k + 1) * (val (ys.drop (k + 1)) / 2 ^ p) = val ys / 2 ^ p := by
  have hs := two_pow_split p (by omega)
  rw [take_set hz, val_snoc, List.length_take, Nat.min_eq_left (by omega), ← h, val_drop_cons hk, shr_math _ _ _ _ hs (Nat.pow_pos (by omega)), ht]
  have hm : val (ys.drop (k + 1)) * 2 ^ (32 - p) % 4294967296 = ys[k + 1]?.getD 0 * 2 ^ (32 - p) % 4294967296 := by
    rw [Nat.mul_mod, val_mod hok, ← Nat.mod_eq_of_lt (getD_lt hok (k + 1)), ← Nat.mul_mod, Nat.mod_eq_of_lt (getD_lt hok (k + 1))]
  rw [hm, Nat.pow_succ]
  simp only [Nat.mul_add, Nat.mul_assoc, Nat.add_assoc]
theorem shr_pow (v n : Nat) : v / 4294967296 ^ (n / 32) / 2 ^ (n % 32) = v / 2 ^ n := by
  rw [Nat.div_div_eq_div_mul, pow_parts]
theorem Dg.drop {w : World} {b off c : Nat} {xs : List Nat} {k : Nat} (h : Dg w (some ⟨b, off, none⟩) c xs) (hk : k < xs.length) : Dg w (some ⟨b, off + k, none⟩) (c - k) (xs.drop k) := by
  refine ⟨by rw [List.length_drop]; have := h.1; omega, fun x hx => h.2.1 x (List.mem_of_mem_drop hx), fun _ => ?_⟩
  obtain ⟨b', off', e, hb, hc⟩ := h.2.2 (by omega)
  injection e with e
  injection e with e1 e2 _
  subst e1 e2
  refine ⟨b, off + k, rfl, hb, fun j hj => ?_⟩
  rw [List.length_drop] at hj
  rw [Nat.add_assoc, hc (k + j) (by omega), List.getElem?_drop]
theorem shr_any (A : Option Addr) (c : Nat) (xs : List Nat) (n : Nat) (w : World) (h : Dg w A c xs) (hl : xs.length ≤ 1048576) (hn : n ≤ 9223372036854775807) :
    Calls Tryz.prog 104 #[.slice A xs.length c, .int .i64 n] w fun e w' => ∃ A' c', e = .returned (.slice A' (digs (val xs / 2 ^ n)).length c') ∧ Dg w' A' c' (digs (val xs / 2 ^ n)) ∧ Below w.heap.size w w' := by
  have l1 := digs_len_le h.2.1
  have H := qH h
  clear h
  have d0 : decide ((n : Int) < 0) = false := by simp
  have HN := qH hn
  go_enter Tryz.func104, Tryz.ntmps104
  go_wp2_with fail
  refine (short_any A c xs _ H.out (by omega)).mono ?_
  rintro e w' ⟨A1, c1, rfl, h1, rfl⟩
  have H1 := qH h1
  clear h1
  have V1 := qH (val_digs (val xs))
  have O1 := qH (ok_digs (val xs))
  generalize digs (val xs) = X at *
  by_cases hw : X.length ≤ n / 32
  · have d1 : decide ((X.length : Int) ≤ (n : Int) / 32) = true := by simp; omega
    have HF := qH (show val xs / 2 ^ n = 0 from by
      rw [← V1.out, ← shr_pow, ← val_drop X O1.out, List.drop_eq_nil_of_le hw]; simp [val])
    clear hw
    go_wp2
    go_ret
    rw [HF.out, digs_zero]
    exact ⟨none, 0, rfl, Dg.nil_ _ _, Below.refl _ _⟩
  · have d1 : decide ((X.length : Int) ≤ (n : Int) / 32) = false := by simp; omega
    obtain ⟨b, off, rfl, hb, hcx⟩ := H1.out.2.2 (by omega)
    have hcap := H1.out.1
    have hw0 : (0 : Int) ≤ (n : Int) / 32 := by omega
    have hw1 : (n : Int) / 32 ≤ (X.length : Int) := by omega
    have hwc : ¬ (c1 = n / 32) := by omega
    go_upto_region 8 with fail
    have hdy := H1.out.drop (show n / 32 < X.length by omega)
    have hyl : (X.drop (n / 32)).length = X.length - n / 32 := List.length_drop
    have HVY := qH (show val (X.drop (n / 32)) / 2 ^ (n % 32) = val xs / 2 ^ n from by rw [val_drop X O1.out, shr_pow, V1.out])
    have OY := qH hdy.2.1
    have hm1 : X.length - n / 32 ≤ 1048576 := by omega
    have hm0 : 0 < X.length - n / 32 := by omega
    clear hw d1 hw0 hw1 hwc hcx hcap
    generalize X.drop (n / 32) = Y at *
    generalize X.length - n / 32 = m at *
    generalize off + n / 32 = o at *
    generalize c1 - n / 32 = cy at *
    have HL0 := qH hyl
    have HDY := qH hdy
    clear hyl hdy
    have hmk := run_make_row' (P := Tryz.prog) 22 67 (.int .u32 0) 4 Tryz.underlying22 elem_info rfl .i64 .i64 m (by omega) (by omega)
    go_wp2
    go_loopw [31] (fun i wr => ∃ (k : Nat) (zs : List Nat), k ≤ m ∧ i = .int .i64 k ∧ Row wr w.heap.size zs ∧ Hid (zs.length = m) ∧ ok32 zs ∧
      Hid (val (zs.take k) + 4294967296 ^ k * (val (Y.drop k) / 2 ^ (n % 32)) = val Y / 2 ^ (n % 32)) ∧ Below w.heap.size w wr) (fun i _ => m - (intOf i).toNat)
    case atStart => exact ⟨0, List.replicate m 0, Nat.zero_le _, rfl, Row.made _ _, by simp [Hid], ok_zeros _, by simp [Hid, val], (Below.refl _ _).alloc (Nat.le_refl _) _⟩
    case round =>
      obtain ⟨k, zs, hk, rfl, hrow, HL, hok, HE, hbel⟩ := hrel
      by_cases hlt : k < m
      · obtain ⟨b', o', e, hbk, hcx⟩ := HDY.out.2.2 (by have := HL0.out; omega)
        injection e with e
        injection e with e1 e2 _
        subst e1 e2
        have hx := (hbel.cell (p := ⟨b, o + k, none⟩) hb).trans (hcx k (by have := HL0.out; omega))
        have hX := getD_lt OY.out k
        have hZ := getD_lt OY.out (k + 1)
        have hcell := hrow.cell (i := k) (by have := HL.out; omega)
        have hfr := hrow.frozen k
        by_cases hlast : k + 1 < m
        · have hx2 := (hbel.cell (p := ⟨b, o + (k + 1), none⟩) hb).trans (hcx (k + 1) (by have := HL0.out; omega))
          have d2 : decide ((k : Int) + 1 < (m : Int)) = true := by simp; omega
          have hki : (k : Int) + 1 < (m : Int) := by omega
          generalize ex : Y[k]?.getD 0 = x at *
          generalize ey : Y[k + 1]?.getD 0 = y at *
          have HX := qH ex
          have HY := qH ey
          clear ex ey hcx
          go_wp2
          have hdiv : (x : Int) / 2 ^ (n % 32) = ((x / 2 ^ (n % 32) : Nat) : Int) := by rw [Int.natCast_ediv, Int.natCast_pow]; rfl
          have hdl : x / 2 ^ (n % 32) < 4294967296 := Nat.lt_of_le_of_lt (Nat.div_le_self _ _) hX
          have hr1 := hrow.set_int (i := k) hdiv
          have hb1 := hbel.setCell (p := ⟨w.heap.size, k, none⟩) (Nat.le_refl _) (.int .u32 ((x : Int) / 2 ^ (n % 32)))
          have hx3 := (World.cell?_setCell_other wr ⟨w.heap.size, k, none⟩ ⟨b, o + (k + 1), none⟩ (.int .u32 ((x : Int) / 2 ^ (n % 32))) (by intro e; injection e with e1 _ _; omega)).trans hx2
          generalize wr.setCell ⟨w.heap.size, k, none⟩ (.int .u32 ((x : Int) / 2 ^ (n % 32))) = W1 at *
          have hc1 := hr1.cell (i := k) (by simp; have := HL.out; omega)
          rw [List.getElem?_set_self (by have := HL.out; omega), Option.getD_some, ← hdiv] at hc1
          have hf1 := hr1.frozen k
          have HDV := qH hdiv
          have HR1 := qH hr1
          have HB1 := qH hb1
          clear hdiv hr1 hb1 hrow hbel
          clear hx hx2 hcell hfr
          have hw1 : IntKind.i64.wrap ((k : Int) + 1) = (k : Int) + 1 := IntWalk.i64_in _ (by omega)
          have hw2 : IntKind.i64.wrap (32 - (n : Int) % 32) = 32 - (n : Int) % 32 := IntWalk.i64_in _ (by omega)
          have hs0 : (0 : Int) ≤ 32 - (n : Int) % 32 := by omega
          have hs1 : (32 - (n : Int) % 32).toNat = 32 - n % 32 := by omega
          have hs2 : (32 - (n : Int) % 32) < 64 := by omega
          have hk0 : (0 : Int) ≤ (k : Int) + 1 := by omega
          have hk1 : ((k : Int) + 1).toNat = k + 1 := by omega
          refine wp_region_still_tail 14 (by kernel_rfl) (by kernel_rfl) ?_
          simp only [List.take_succ_cons, List.take_zero, List.drop_succ_cons, List.drop_zero]
          repeat still_step
          refine wpStill_nil ?_
          change wpList _ _ _ _ _ W1.drew
          go_wp2
          go_roundw
          case rel =>
            obtain ⟨g1, _, _⟩ := shr_digit x y (n % 32) hX (by omega)
            have e1 := shr_or x y (n % 32) hX (by omega)
            have hss := shr_step (zs := zs) (ys := Y) (k := k) (p := n % 32) (by have := HL.out; omega) (by have := HL0.out; omega) OY.out (by omega) HE.out rfl
            rw [HX.out, HY.out] at hss
            refine ⟨k + 1, (zs.set k (x / 2 ^ (n % 32))).set k (x / 2 ^ (n % 32) + y * 2 ^ (32 - n % 32) % 4294967296), hlt, by go_num, HR1.out.drew.set_int e1, by simp only [List.length_set]; exact HL, ok_set (ok_set hok hdl k) g1 k, ?_, (HB1.out.drew).setCell (by simp) _⟩
            rw [List.set_set]
            exact hss
          case measure => simp [intOf]; omega
        · have d2 : decide ((k : Int) + 1 < (m : Int)) = false := by simp; omega
          have HY := qH (show Y[k + 1]?.getD 0 = 0 from by rw [List.getElem?_eq_none (by have := HL0.out; omega)]; rfl)
          generalize ex : Y[k]?.getD 0 = x at *
          have HX := qH ex
          have hml : (m : Int) ≤ (k : Int) + 1 := by omega
          clear ex hcx hlast
          go_wp2
          go_roundw
          case rel =>
            have hdiv : (x : Int) / 2 ^ (n % 32) = ((x / 2 ^ (n % 32) : Nat) : Int) := by rw [Int.natCast_ediv, Int.natCast_pow]; rfl
            have hdl : x / 2 ^ (n % 32) < 4294967296 := Nat.lt_of_le_of_lt (Nat.div_le_self _ _) hX
            have hss := shr_step (zs := zs) (ys := Y) (k := k) (p := n % 32) (by have := HL.out; omega) (by have := HL0.out; omega) OY.out (by omega) HE.out rfl
            rw [HX.out, HY.out, Nat.zero_mul, Nat.zero_mod, Nat.add_zero] at hss
            exact ⟨k + 1, zs.set k (x / 2 ^ (n % 32)), hlt, by go_num, hrow.set_int hdiv, by simp only [List.length_set]; exact HL, ok_set hok hdl k, hss, hbel.setCell (by simp) _⟩
          case measure => simp [intOf]; omega
      · have hk' : k = m := by omega
        subst hk'
        clear hlt
        go_wp2_with fail
        have HV := qH (show val zs = val xs / 2 ^ n from by
          have := HE.out
          rw [List.take_of_length_le (by have := HL.out; omega : zs.length ≤ k), List.drop_eq_nil_of_le (by have := HL0.out; omega), HVY.out] at this
          simpa [val] using this)
        have HD := qH (hrow.dg hok (c := k) (by have := HL.out; omega))
        refine (short_n HD.out (by have := HL.out; omega) HL.out.symm).mono ?_
        rintro e w' ⟨A2, c2, rfl, h2, rfl⟩
        rw [HV.out] at h2
        rw [HV.out]
        have HR := qH h2
        clear h2
        go_wp2
        go_ret
        exact ⟨A2, c2, rfl, HR.out, hbel⟩
end Go.Proofs.YtdmfapgclppmhaaGreatDoor
end
section
namespace Go.Proofs.YtdmfapgclppmhaaGreatDoor
open Go.RowKit
section
variable {w0 w w' : World} {L : List (Option Addr × Nat × List Nat)} {A B : Option Addr} {c d n m : Nat} {xs ys : List Nat} {x y : Nat}
end
theorem pow_digs_len (k : Nat) : (digs (2 ^ k)).length ≤ k / 32 + 1 := by
  apply digs_len_lt
  have e : (4294967296 : Nat) = 2 ^ 32 := rfl
  rw [e, ← Nat.pow_mul]
  exact Nat.pow_lt_pow_right (by omega) (by omega)
theorem digs_shr_len (x k : Nat) : (digs (x / 2 ^ k)).length ≤ (digs x).length := digs_len_mono _ _ (Nat.div_le_self _ _)
theorem blen_lt (x : Nat) : x < 2 ^ blen x := by
  induction x using Nat.strongRecOn with
  | ind x ih =>
    by_cases h : x = 0
    · subst h; rw [blen_zero]; omega
    · have := ih (x / 2) (by omega)
      rw [blen_pos h, Nat.add_comm, Nat.pow_succ]; omega
end Go.Proofs.YtdmfapgclppmhaaGreatDoor
end
section
namespace Go.Proofs.YtdmfapgclppmhaaGreatDoor
open Go.RowKit
section
variable {w0 w w' : World} {L : List (Option Addr × Nat × List Nat)} {A B : Option Addr} {c d n m : Nat} {xs ys : List Nat} {x y : Nat}
end
end Go.Proofs.YtdmfapgclppmhaaGreatDoor
end
section
namespace Go.Proofs.YtdmfapgclppmhaaGreatDoor
open Go.RowKit
theorem Live.new {w0 w : World} {L : List (Option Addr × Nat × List Nat)} (h : Live w0 w L) (cs : Array Value) {xs : List Nat} (hk : ok32 xs) (hc : ∀ j, j < xs.length → cs[j]? = some (.int .u32 (xs[j]?.getD 0 : Nat))) :
    Live w0 (w.alloc (.cells cs 67)) ((some ⟨w.heap.size, 0, none⟩, xs.length, xs) :: L) :=
  (h.step ((Below.refl _ _).alloc (Nat.le_refl _) _)).add (dg_new w cs _ hk hc (Nat.le_refl _))
theorem Live.new1 {w0 w : World} {L : List (Option Addr × Nat × List Nat)} (h : Live w0 w L) (x : Int) (a : Nat) (hx : x = (a : Int)) (ha : a < 4294967296) :
    Live w0 (w.alloc (.cells #[.int .u32 x] 67)) ((some ⟨w.heap.size, 0, none⟩, 1, [a]) :: L) := by
  subst hx
  exact h.new #[.int .u32 (a : Int)] (xs := [a]) (by intro z hz; simp at hz; omega) (by intro j hj; simp at hj; subst hj; rfl)
theorem Live.new2 {w0 w : World} {L : List (Option Addr × Nat × List Nat)} (h : Live w0 w L) (x y : Int) (a b : Nat) (hx : x = (a : Int)) (hy : y = (b : Int)) (ha : a < 4294967296) (hb : b < 4294967296) :
    Live w0 (w.alloc (.cells #[.int .u32 x, .int .u32 y] 67)) ((some ⟨w.heap.size, 0, none⟩, 2, [a, b]) :: L) := by
  subst hx hy
  exact h.new #[.int .u32 (a : Int), .int .u32 (b : Int)] (xs := [a, b]) (by intro z hz; simp at hz; omega)
    (by intro j hj; simp at hj; rcases (show j = 0 ∨ j = 1 by omega) with rfl | rfl <;> rfl)
theorem Live.new3 {w0 w : World} {L : List (Option Addr × Nat × List Nat)} (h : Live w0 w L) (x y z : Int) (a b c : Nat) (hx : x = (a : Int)) (hy : y = (b : Int)) (hz : z = (c : Int)) (ha : a < 4294967296) (hb : b < 4294967296) (hc : c < 4294967296) :
    Live w0 (w.alloc (.cells #[.int .u32 x, .int .u32 y, .int .u32 z] 67)) ((some ⟨w.heap.size, 0, none⟩, 3, [a, b, c]) :: L) := by
  subst hx hy hz
  exact h.new #[.int .u32 (a : Int), .int .u32 (b : Int), .int .u32 (c : Int)] (xs := [a, b, c]) (by intro z hz; simp at hz; omega)
    (by intro j hj; simp at hj; rcases (show j = 0 ∨ j = 1 ∨ j = 2 by omega) with rfl | rfl | rfl <;> rfl)
theorem digs_one {a : Nat} (ha : a < 4294967296) (h : a ≠ 0) : digs a = [a] := by
  rw [digs_pos h, show a % 4294967296 = a by omega, show a / 4294967296 = 0 by omega, digs_zero]
theorem live_start (w : World) : Live w w [] := ⟨Below.refl _ _, fun t ht => by simp at ht⟩
theorem Dg.take {w : World} {A : Option Addr} {c : Nat} {xs : List Nat} (h : Dg w A c xs) (k : Nat) : Dg w A c (xs.take k) :=
  ⟨by rw [List.length_take]; have := h.1; omega, fun x hx => h.2.1 x (List.mem_of_mem_take hx), fun h0 => by
    rw [List.length_take] at h0
    obtain ⟨b, off, e, hb, hc⟩ := h.2.2 (by omega)
    refine ⟨b, off, e, hb, fun j hj => ?_⟩
    rw [List.length_take] at hj
    rw [hc j (by omega), List.getElem?_take, if_pos (by omega)]⟩
theorem bcell {W w1 : World} (hb : Below W.heap.size W w1) : (∀ b o, b < W.heap.size → w1.cell? ⟨b, o, none⟩ = W.cell? ⟨b, o, none⟩) ∧ (∀ b o, b < W.heap.size → w1.frozen? ⟨b, o, none⟩ = W.frozen? ⟨b, o, none⟩) :=
  ⟨fun b o h => hb.cell (p := ⟨b, o, none⟩) h, fun b o h => hb.frozen (p := ⟨b, o, none⟩) h⟩
theorem below1 (w : World) (o1 : Obj) : Below w.heap.size w (w.alloc o1) := (Below.refl _ _).alloc (Nat.le_refl _) _
theorem below2 (w : World) (o1 o2 : Obj) : Below w.heap.size w ((w.alloc o1).alloc o2) := (below1 w o1).alloc (by simp) _
theorem below3 (w : World) (o1 o2 o3 : Obj) : Below w.heap.size w (((w.alloc o1).alloc o2).alloc o3) := (below2 w o1 o2).alloc (by simp; omega) _
def Off (g : Nat) (A : Option Addr) (xs : List Nat) : Prop := 0 < xs.length → ∀ o, A ≠ some ⟨g, o, none⟩
theorem Dg.set_off {w : World} {A : Option Addr} {c g : Nat} {xs : List Nat} (h : Dg w A c xs) (hA : Off g A xs) (i : Nat) (v : Value) : Dg (w.setCell ⟨g, i, none⟩ v) A c xs :=
  ⟨h.1, h.2.1, fun h0 => by
    obtain ⟨b, off, e, hb, hc⟩ := h.2.2 h0
    have hne : b ≠ g := fun e' => hA h0 off (by rw [e, e'])
    refine ⟨b, off, e, by simpa using hb, fun j hj => ?_⟩
    rw [World.cell?_setCell_other _ _ _ _ (by intro h; simp only [Addr.mk.injEq] at h; omega)]
    exact hc j hj⟩
theorem off_box {W w1 : World} {A : Option Addr} {c g : Nat} {xs : List Nat} {cs : Array Value} {t : TypeId} (hd : Dg w1 A c xs) (hb : Below (W.alloc (.cells cs t)).heap.size (W.alloc (.cells cs t)) w1) (hg : g = W.heap.size) (hcs : ∀ (o : Nat) (n : Int), cs[o]? ≠ some (.int .u32 n)) : Off g A xs := by
  intro h0 o e
  obtain ⟨b, off, e', _, hc⟩ := hd.2.2 h0
  rw [e] at e'
  simp only [Option.some.injEq, Addr.mk.injEq, and_true] at e'
  obtain ⟨rfl, rfl⟩ := e'
  have h1 := hc 0 h0
  rw [hb.cell (p := ⟨g, o + 0, none⟩) (by rw [hg]; simp), hg, cell_of_row _ _ _ _ _ _ (heap_alloc_new W _)] at h1
  exact hcs _ _ h1
theorem noint1 {A : Option Addr} {n c : Nat} : ∀ (o : Nat) (m : Int), (#[Value.slice A n c])[o]? ≠ some (.int .u32 m) := by
  intro o m; rcases o with _ | o <;> simp
theorem noint2 {A : Option Addr} {n c : Nat} {b : Bool} : ∀ (o : Nat) (m : Int), (#[Value.slice A n c, .bool b])[o]? ≠ some (.int .u32 m) := by
  intro o m; rcases o with _ | _ | o <;> simp
theorem noint2' {A : Option Addr} {n c : Nat} {b : Bool} : ∀ (o : Nat) (m : Int), (#[Value.bool b, .slice A n c])[o]? ≠ some (.int .u32 m) := by
  intro o m; rcases o with _ | _ | o <;> simp
theorem against_any (A B : Option Addr) (c d x y : Nat) (q : Int) (w : World) (h : Dg w A c (digs x)) (h' : Dg w B d (digs y)) (hl : (digs x).length ≤ 1048576) (hl' : (digs y).length ≤ 1048576) (hq : cmpi x y = q) :
    Calls Tryz.prog 116 #[.agg #[.slice A (digs x).length c], .agg #[.slice B (digs y).length d]] w fun e w' => e = .returned (.int .i64 q) ∧ Below w.heap.size w w' := by
  have HC := qH (cmp_any A B c d (digs x) (digs y))
  rw [val_digs, val_digs, hq] at HC
  go_enter Tryz.func116, Tryz.ntmps116
  go_wp2_with fail
  refine (HC.out _ (h.below (below2 _ _ _)) (h'.below (below2 _ _ _)) (by omega) (by omega)).mono ?_
  rintro e w1 ⟨rfl, k, rfl⟩
  go_wp2
  go_ret
  exact ⟨rfl, below_drewN (below2 _ _ _) _⟩
theorem with_any (A B : Option Addr) (c d x y : Nat) (w : World) (h : Dg w A c (digs x)) (h' : Dg w B d (digs y)) (hl : (digs x).length ≤ 1048576) (hl' : (digs y).length ≤ 1048576) :
    Calls Tryz.prog 115 #[.agg #[.slice A (digs x).length c], .agg #[.slice B (digs y).length d]] w fun e w' => ∃ A' c', e = .returned (.agg #[.slice A' (digs (x + y)).length c']) ∧ Dg w' A' c' (digs (x + y)) ∧ Below w.heap.size w w' := by
  have HC := qH (add_any A B c d (digs x) (digs y))
  rw [val_digs, val_digs] at HC
  go_enter Tryz.func115, Tryz.ntmps115
  go_wp2_with fail
  refine (HC.out _ (h.below (below3 _ _ _ _)) (h'.below (below3 _ _ _ _)) hl hl').mono ?_
  rintro e w1 ⟨A1, c1, rfl, hd, hb⟩
  obtain ⟨hc, hf⟩ := bcell hb
  have HO := qH (off_box (g := w.heap.size + 1 + 1) hd hb (by simp) noint1)
  have HB := qH ((below3 w _ _ _).trans (hb.mono (by simp; omega)))
  have HD := qH hd
  clear hb hd
  go_wp2
  refine bodyPost_ret (v := .agg #[.slice A1 (digs (x + y)).length c1]) (by simp [results, Tryz.results115, go_sem, hc]) rfl ⟨A1, c1, rfl, ?_, ?_⟩
  · exact HD.out.set_off HO.out _ _
  · exact HB.out.setCell (by simp; omega) _
theorem without_any (A B : Option Addr) (c d x y : Nat) (w : World) (h : Dg w A c (digs x)) (h' : Dg w B d (digs y)) (hl : (digs x).length ≤ 1048576) (hl' : (digs y).length ≤ 1048576) (hle : y ≤ x) :
    Calls Tryz.prog 117 #[.agg #[.slice A (digs x).length c], .agg #[.slice B (digs y).length d]] w fun e w' => ∃ A' c', e = .returned (.agg #[.slice A' (digs (x - y)).length c']) ∧ Dg w' A' c' (digs (x - y)) ∧ Below w.heap.size w w' := by
  have HC := qH (sub_yes A B c d (digs x) (digs y))
  rw [val_digs, val_digs] at HC
  go_enter Tryz.func117, Tryz.ntmps117
  go_wp2_with fail
  refine (HC.out _ (h.below (below3 _ _ _ _)) (h'.below (below3 _ _ _ _)) hl hl' hle).mono ?_
  rintro e w1 ⟨A1, c1, rfl, hd, hb⟩
  obtain ⟨hc, hf⟩ := bcell hb
  have HO := qH (off_box (g := w.heap.size + 1 + 1) hd hb (by simp) noint1)
  have HB := qH ((below3 w _ _ _).trans (hb.mono (by simp; omega)))
  have HD := qH hd
  clear hb hd
  go_wp2
  refine bodyPost_ret (v := .agg #[.slice A1 (digs (x - y)).length c1]) (by simp [results, Tryz.results117, go_sem, hc]) rfl ⟨A1, c1, rfl, ?_, ?_⟩
  · exact HD.out.set_off HO.out _ _
  · exact HB.out.setCell (by simp; omega) _
def sg (s : Bool) (m : Nat) : Int := if s then -(m : Int) else (m : Int)
theorem give_any (A : Option Addr) (c x : Nat) (s : Bool) (w : World) (h : Dg w A c (digs x)) (hl : (digs x).length ≤ 1048576) :
    Calls Tryz.prog 75 #[.agg #[.slice A (digs x).length c, .bool s]] w fun e w' => ∃ A' c', e = .returned (.agg #[.bool (s && decide (x ≠ 0)), .slice A' (digs x).length c']) ∧ Dg w' A' c' (digs x) ∧ Below w.heap.size w w' := by
  by_cases h0 : x = 0
  · subst h0
    have HZ := qH (zero_any A (digs 0).length c)
    rw [digs_zero] at HZ
    rw [digs_zero]
    go_enter Tryz.func75, Tryz.ntmps75
    go_wp2_with fail
    refine (HZ.out _ true rfl).mono ?_
    rintro e w1 ⟨rfl, hb⟩
    obtain ⟨hc, hf⟩ := bcell hb
    have HB := qH ((below2 w _ _).trans (hb.mono (by simp; omega)))
    clear hb
    go_wp2
    refine bodyPost_ret (v := .agg #[.bool false, .slice none 0 0]) (by simp [results, Tryz.results75, go_sem, hc]) rfl ⟨none, 0, by simp, Dg.nil_ _ _, ?_⟩
    exact (HB.out.setCell (by simp) _).setCell (by simp) _
  · have hz : (((digs x).length : Int) == 0) = false := beq_eq_false_iff_ne.2 (by have : (digs x).length ≠ 0 := fun e => h0 (digs_nil.1 e); omega)
    have HZ := qH hz
    have HS := qH (show (s && decide (x ≠ 0)) = s by rw [decide_eq_true h0, Bool.and_true])
    clear hz h0
    go_enter Tryz.func75, Tryz.ntmps75
    go_wp2_with fail
    refine (zero_any A (digs x).length c _ false HZ.out).mono ?_
    rintro e w1 ⟨rfl, hb⟩
    obtain ⟨hc, hf⟩ := bcell hb
    have HD := qH (h.below ((below2 w _ _).trans (hb.mono (by simp; omega))))
    have HO := qH (off_box (g := w.heap.size + 1) HD.out hb (by simp) noint2')
    have HB := qH ((below2 w _ _).trans (hb.mono (by simp; omega)))
    clear hb h
    go_wp2
    refine bodyPost_ret (v := .agg #[.bool s, .slice A (digs x).length c]) (by simp [results, Tryz.results75, go_sem, hc]) rfl ⟨A, c, by rw [HS.out], ?_, ?_⟩
    · exact (HD.out.set_off HO.out _ _).set_off HO.out _ _
    · exact (HB.out.setCell (by simp) _).setCell (by simp) _
theorem bcellB {W w1 : World} {N : Nat} (hb : Below N W w1) : (∀ b o, b < N → w1.cell? ⟨b, o, none⟩ = W.cell? ⟨b, o, none⟩) ∧ (∀ b o, b < N → w1.frozen? ⟨b, o, none⟩ = W.frozen? ⟨b, o, none⟩) :=
  ⟨fun b o h => hb.cell (p := ⟨b, o, none⟩) h, fun b o h => hb.frozen (p := ⟨b, o, none⟩) h⟩
theorem undrew {w w1 : World} (hb : Below w.drew.heap.size w.drew w1) : Below w.heap.size w w1 := ⟨hb.os, hb.tape, hb.output, hb.size, hb.block⟩
theorem N2 (w : World) (o1 o2 o3 : Obj) : w.heap.size + 2 ≤ (((w.alloc o1).alloc o2).alloc o3).heap.size := by simp
theorem sum_same (A B : Option Addr) (c d x y : Nat) (s : Bool) (w : World) (h : Dg w A c (digs x)) (h' : Dg w B d (digs y)) (hl : (digs x).length ≤ 1048576) (hl' : (digs y).length ≤ 1048576) :
    Calls Tryz.prog 105 #[.agg #[.slice A (digs x).length c, .bool s], .agg #[.slice B (digs y).length d, .bool s]] w fun e w' => ∃ A' c', e = .returned (.agg #[.slice A' (digs (x + y)).length c', .bool s]) ∧ Dg w' A' c' (digs (x + y)) ∧ Below w.heap.size w w' := by
  have HW := qH (with_any A B c d x y)
  have hs : (s == s) = true := by simp
  go_enter Tryz.func105, Tryz.ntmps105
  go_wp2
  go_region_held3 (fun w' => (∀ b o, b < w.heap.size + 2 → w'.cell? ⟨b, o, none⟩ = (((w.alloc (.cells #[.slice A (digs x).length c, .bool s] 121)).alloc (.cells #[.slice B (digs y).length d, .bool s] 121)).alloc (.cells #[.slice none 0 0, .bool false] 121)).cell? ⟨b, o, none⟩) ∧ (∀ b o, b < w.heap.size + 2 → w'.frozen? ⟨b, o, none⟩ = (((w.alloc (.cells #[.slice A (digs x).length c, .bool s] 121)).alloc (.cells #[.slice B (digs y).length d, .bool s] 121)).alloc (.cells #[.slice none 0 0, .bool false] 121)).frozen? ⟨b, o, none⟩))
    (first | exact ⟨fun _ _ _ => rfl, fun _ _ _ => rfl⟩ | exact bcellB HB1.out | exact bcellB ((HB1.out.setCell (by simp) _).setCell (by simp) _))
    (first | (go_at_call 115; refine (HW.out _ (h.below (below_drew (below3 _ _ _ _))) (h'.below (below_drew (below3 _ _ _ _))) hl hl').mono ?_; rintro e w1 ⟨A1, c1, rfl, hd, hb⟩; (have HB1 := qH ((undrew hb).mono (N2 _ _ _ _))); (obtain ⟨hc1, hf1⟩ := bcell (undrew hb)); (have HO1 := qH (off_box (g := w.heap.size + 1 + 1) hd (undrew hb) (by simp) noint2)); (have HD1 := qH hd); clear hb hd))
  go_wp2
  refine bodyPost_ret (v := .agg #[.slice A1 (digs (x + y)).length c1, .bool s]) (by simp [results, Tryz.results105, go_sem, hc1]) rfl ⟨A1, c1, rfl, ?_, ?_⟩
  · exact (HD1.out.set_off HO1.out _ _).set_off HO1.out _ _
  · exact (((below3 w _ _ _).trans (HB1.out.mono (by omega))).setCell (by simp; omega) _).setCell (by simp; omega) _
theorem sum_less (A B : Option Addr) (c d x y : Nat) (s r : Bool) (w : World) (h : Dg w A c (digs x)) (h' : Dg w B d (digs y)) (hl : (digs x).length ≤ 1048576) (hl' : (digs y).length ≤ 1048576) (hsr : (s == r) = false) (hlt : x < y) :
    Calls Tryz.prog 105 #[.agg #[.slice A (digs x).length c, .bool s], .agg #[.slice B (digs y).length d, .bool r]] w fun e w' => ∃ A' c', e = .returned (.agg #[.slice A' (digs (y - x)).length c', .bool r]) ∧ Dg w' A' c' (digs (y - x)) ∧ Below w.heap.size w w' := by
  have HA := qH (fun W h1 h2 => against_any A B c d x y (-1) W h1 h2 hl hl' (cmpi_lt hlt))
  have HW := qH (fun W h1 h2 => without_any B A d c y x W h1 h2 hl' hl (Nat.le_of_lt hlt))
  clear hlt
  go_enter Tryz.func105, Tryz.ntmps105
  go_wp2_with fail
  refine (HA.out _ (h.below (below3 _ _ _ _)) (h'.below (below3 _ _ _ _))).mono ?_
  rintro e w0 ⟨rfl, hb0⟩
  have HB0 := qH hb0
  have H1 := qH (h.below ((below3 w _ _ _).trans (hb0.mono (by simp; omega))))
  have H2 := qH (h'.below ((below3 w _ _ _).trans (hb0.mono (by simp; omega))))
  obtain ⟨hc0, hf0⟩ := bcell hb0
  clear hb0 h h'
  go_wp2
  go_region_held3 (fun w' => (∀ b o, b < w.heap.size + 2 → w'.cell? ⟨b, o, none⟩ = (((w.alloc (.cells #[.slice A (digs x).length c, .bool s] 121)).alloc (.cells #[.slice B (digs y).length d, .bool r] 121)).alloc (.cells #[.slice none 0 0, .bool false] 121)).cell? ⟨b, o, none⟩))
    (first | exact (bcellB (HB0.out.mono (N2 _ _ _ _))).1 | exact (bcellB HB1.out).1 | exact (bcellB ((HB1.out.setCell (by simp) _).setCell (by simp) _)).1)
    (first | (go_at_call 117; refine (HW.out _ (H2.out.below (below_drew (Below.refl _ _))) (H1.out.below (below_drew (Below.refl _ _)))).mono ?_; rintro e w1 ⟨A1, c1, rfl, hd, hb⟩; (have HB2 := qH (HB0.out.trans ((undrew hb).mono HB0.out.size))); (have HB1 := qH (HB2.out.mono (N2 _ _ _ _))); (obtain ⟨hc1, hf1⟩ := bcell HB2.out); (have HO1 := qH (off_box (g := w.heap.size + 1 + 1) hd HB2.out (by simp) noint2)); (have HD1 := qH hd); clear hb hd))
  go_wp2
  refine bodyPost_ret (v := .agg #[.slice A1 (digs (y - x)).length c1, .bool r]) (by simp [results, Tryz.results105, go_sem, hc1]) rfl ⟨A1, c1, rfl, ?_, ?_⟩
  · exact (HD1.out.set_off HO1.out _ _).set_off HO1.out _ _
  · exact (((below3 w _ _ _).trans (HB1.out.mono (by omega))).setCell (by simp; omega) _).setCell (by simp; omega) _
theorem sum_more (A B : Option Addr) (c d x y : Nat) (s r : Bool) (w : World) (h : Dg w A c (digs x)) (h' : Dg w B d (digs y)) (hl : (digs x).length ≤ 1048576) (hl' : (digs y).length ≤ 1048576) (hsr : (s == r) = false) (q : Int) (hq0 : decide (q < 0) = false) (hq : cmpi x y = q) (hle : y ≤ x) :
    Calls Tryz.prog 105 #[.agg #[.slice A (digs x).length c, .bool s], .agg #[.slice B (digs y).length d, .bool r]] w fun e w' => ∃ A' c', e = .returned (.agg #[.slice A' (digs (x - y)).length c', .bool s]) ∧ Dg w' A' c' (digs (x - y)) ∧ Below w.heap.size w w' := by
  have HA := qH (fun W h1 h2 => against_any A B c d x y q W h1 h2 hl hl' hq)
  have HW := qH (fun W h1 h2 => without_any A B c d x y W h1 h2 hl hl' hle)
  clear hq hle
  go_enter Tryz.func105, Tryz.ntmps105
  go_wp2_with fail
  refine (HA.out _ (h.below (below3 _ _ _ _)) (h'.below (below3 _ _ _ _))).mono ?_
  rintro e w0 ⟨rfl, hb0⟩
  have HB0 := qH hb0
  have H1 := qH (h.below ((below3 w _ _ _).trans (hb0.mono (by simp; omega))))
  have H2 := qH (h'.below ((below3 w _ _ _).trans (hb0.mono (by simp; omega))))
  obtain ⟨hc0, hf0⟩ := bcell hb0
  clear hb0 h h'
  go_wp2
  go_region_held3 (fun w' => (∀ b o, b < w.heap.size + 2 → w'.cell? ⟨b, o, none⟩ = (((w.alloc (.cells #[.slice A (digs x).length c, .bool s] 121)).alloc (.cells #[.slice B (digs y).length d, .bool r] 121)).alloc (.cells #[.slice none 0 0, .bool false] 121)).cell? ⟨b, o, none⟩))
    (first | exact (bcellB (HB0.out.mono (N2 _ _ _ _))).1 | exact (bcellB HB1.out).1 | exact (bcellB ((HB1.out.setCell (by simp) _).setCell (by simp) _)).1)
    (first | (go_at_call 117; refine (HW.out _ (H1.out.below (below_drew (Below.refl _ _))) (H2.out.below (below_drew (Below.refl _ _)))).mono ?_; rintro e w1 ⟨A1, c1, rfl, hd, hb⟩; (have HB2 := qH (HB0.out.trans ((undrew hb).mono HB0.out.size))); (have HB1 := qH (HB2.out.mono (N2 _ _ _ _))); (obtain ⟨hc1, hf1⟩ := bcell HB2.out); (have HO1 := qH (off_box (g := w.heap.size + 1 + 1) hd HB2.out (by simp) noint2)); (have HD1 := qH hd); clear hb hd))
  go_wp2
  refine bodyPost_ret (v := .agg #[.slice A1 (digs (x - y)).length c1, .bool s]) (by simp [results, Tryz.results105, go_sem, hc1]) rfl ⟨A1, c1, rfl, ?_, ?_⟩
  · exact (HD1.out.set_off HO1.out _ _).set_off HO1.out _ _
  · exact (((below3 w _ _ _).trans (HB1.out.mono (by omega))).setCell (by simp; omega) _).setCell (by simp; omega) _
theorem sg_same (s : Bool) (x y : Nat) : sg s (x + y) = sg s x + sg s y := by unfold sg; cases s <;> simp <;> omega
theorem sg_less {s r : Bool} (h : (s == r) = false) {x y : Nat} (hlt : x < y) : sg r (y - x) = sg s x + sg r y := by unfold sg; cases s <;> cases r <;> simp at h ⊢ <;> omega
theorem sg_more {s r : Bool} (h : (s == r) = false) {x y : Nat} (hlt : y ≤ x) : sg s (x - y) = sg s x + sg r y := by unfold sg; cases s <;> cases r <;> simp at h ⊢ <;> omega
theorem sum_any (A B : Option Addr) (c d x y : Nat) (s r : Bool) (w : World) (h : Dg w A c (digs x)) (h' : Dg w B d (digs y)) (hl : (digs x).length ≤ 1000000) (hl' : (digs y).length ≤ 1000000) :
    Calls Tryz.prog 105 #[.agg #[.slice A (digs x).length c, .bool s], .agg #[.slice B (digs y).length d, .bool r]] w fun e w' => ∃ A' c' m t, e = .returned (.agg #[.slice A' (digs m).length c', .bool t]) ∧ sg t m = sg s x + sg r y ∧ (digs m).length ≤ max (digs x).length (digs y).length + 1 ∧ Dg w' A' c' (digs m) ∧ Below w.heap.size w w' := by
  cases hsr : (s == r)
  · rcases Nat.lt_or_ge x y with hlt | hge
    · exact (sum_less A B c d x y s r w h h' (by omega) (by omega) hsr hlt).mono fun _ _ ⟨A', c', he, hd, hb⟩ => ⟨A', c', y - x, r, he, sg_less hsr hlt, by have := digs_sub_len y x; omega, hd, hb⟩
    · have hq : decide (cmpi x y < 0) = false := by
        rcases Nat.eq_or_lt_of_le hge with e | e
        · rw [cmpi_eq e.symm]; rfl
        · rw [cmpi_gt e]; rfl
      exact (sum_more A B c d x y s r w h h' (by omega) (by omega) hsr _ hq rfl hge).mono fun _ _ ⟨A', c', he, hd, hb⟩ => ⟨A', c', x - y, s, he, sg_more hsr hge, by have := digs_sub_len x y; omega, hd, hb⟩
  · have e : s = r := by simpa using hsr
    subst e
    exact (sum_same A B c d x y s w h h' (by omega) (by omega)).mono fun _ _ ⟨A', c', he, hd, hb⟩ => ⟨A', c', x + y, s, he, sg_same s x y, digs_add_len x y, hd, hb⟩
theorem sg_neg (s : Bool) (m : Nat) : (s && decide (m ≠ 0)) = decide (sg s m < 0) := by
  cases s
  · rw [Bool.false_and]; exact (decide_eq_false (by unfold sg; simp)).symm
  · rw [Bool.true_and, decide_eq_decide]; unfold sg; simp; omega
theorem sg_abs (s : Bool) (m : Nat) : (sg s m).natAbs = m := by unfold sg; cases s <;> simp
theorem sg_take (s : Bool) (m : Nat) : sg (s && decide (0 < m)) m = sg s m := by
  unfold sg; cases s
  · simp
  · rcases Nat.eq_zero_or_pos m with h | h
    · subst h; rfl
    · simp [h]
def Zr (z : Int) (w : World) (e : Ending) (w' : World) : Prop := ∃ A' c', e = .returned (.agg #[.bool (decide (z < 0)), .slice A' (digs z.natAbs).length c']) ∧ Dg w' A' c' (digs z.natAbs) ∧ Below w.heap.size w w'
theorem zr_give {w w' : World} {A : Option Addr} {c m : Nat} {t : Bool} {z : Int} (hz : sg t m = z) (hd : Dg w' A c (digs m)) (hb : Below w.heap.size w w') : Zr z w (.returned (.agg #[.bool (t && decide (m ≠ 0)), .slice A (digs m).length c])) w' := by
  have e1 := sg_neg t m
  have e2 := sg_abs t m
  rw [hz] at e1 e2
  rw [e1]
  subst e2
  exact ⟨A, c, rfl, hd, hb⟩
theorem zadd_any (A B : Option Addr) (c d : Nat) (s r : Bool) (xs ys : List Nat) (w : World) (h : Dg w A c xs) (h' : Dg w B d ys) (hl : xs.length ≤ 1000000) (hl' : ys.length ≤ 1000000) :
    Calls Tryz.prog 81 #[.agg #[.bool s, .slice A xs.length c], .agg #[.bool r, .slice B ys.length d]] w fun e w' => Zr (sg s (val xs) + sg r (val ys)) w e w' := by
  have l1 := digs_len_le h.2.1
  have l2 := digs_len_le h'.2.1
  go_enter Tryz.func81, Tryz.ntmps81
  go_wp2
  have HB0 := qH (Below.refl (((w.alloc (.cells #[.bool s, .slice A xs.length c] 24)).alloc (.cells #[.bool r, .slice B ys.length d] 24)).alloc (.cells #[.bool false, .slice none 0 0] 24)).heap.size (((w.alloc (.cells #[.bool s, .slice A xs.length c] 24)).alloc (.cells #[.bool r, .slice B ys.length d] 24)).alloc (.cells #[.bool false, .slice none 0 0] 24)))
  have HD1 := qH (below_drew HB0.out)
  have H1 := qH (h.below (below3 _ (.cells #[.bool s, .slice A xs.length c] 24) (.cells #[.bool r, .slice B ys.length d] 24) (.cells #[.bool false, .slice none 0 0] 24)))
  have H2 := qH (h'.below (below3 _ (.cells #[.bool s, .slice A xs.length c] 24) (.cells #[.bool r, .slice B ys.length d] 24) (.cells #[.bool false, .slice none 0 0] 24)))
  clear h h'
  go_region_held3 (fun w' => (∀ b o, b < w.heap.size + 2 → w'.cell? ⟨b, o, none⟩ = (((w.alloc (.cells #[.bool s, .slice A xs.length c] 24)).alloc (.cells #[.bool r, .slice B ys.length d] 24)).alloc (.cells #[.bool false, .slice none 0 0] 24)).cell? ⟨b, o, none⟩))
    (first | exact fun _ _ _ => rfl | exact (bcellB (K1.out.mono (N2 _ _ _ _))).1 | exact (bcellB (K2.out.mono (N2 _ _ _ _))).1 | exact (bcellB (K3.out.mono (N2 _ _ _ _))).1 | exact (bcellB (K4.out.mono (N2 _ _ _ _))).1 | exact (bcellB (((K4.out.mono (N2 _ _ _ _)).setCell (by simp) _).setCell (by simp) _)).1)
    (first
      | (go_at_call_of 106 A; refine (take_any A c s xs _ (H1.out.below HD1.out) (by omega)).mono ?_; rintro e w1 ⟨A1, c1, rfl, hd, hb⟩; (have K1 := qH (HD1.out.trans (hb.mono HD1.out.size))); (have G1 := qH hd); clear hb hd)
      | (go_at_call_of 106 B; refine (take_any B d r ys _ (H2.out.below K1.out) (by omega)).mono ?_; rintro e w2 ⟨A2, c2, rfl, hd, hb⟩; (have K2 := qH (K1.out.trans (hb.mono K1.out.size))); (have G2 := qH hd); (have F1 := qH (G1.out.below hb)); clear hb hd)
      | (go_at_call 105; refine (sum_any A1 A2 c1 c2 (val xs) (val ys) _ _ _ F1.out G2.out (by omega) (by omega)).mono ?_; rintro e w3 ⟨A3, c3, m, t, rfl, hm, hlm, hd, hb⟩; (have K3 := qH (K2.out.trans (hb.mono K2.out.size))); (have G3 := qH hd); (have M := qH hm); clear hb hd hm)
      | (go_at_call 75; refine (give_any A3 c3 m t _ G3.out (by omega)).mono ?_; rintro e w4 ⟨A4, c4, rfl, hd, hb⟩; (have K4 := qH (K3.out.trans (hb.mono K3.out.size))); (obtain ⟨hc4, hf4⟩ := bcell K4.out); (have HO4 := qH (off_box (g := w.heap.size + 1 + 1) hd K4.out (by simp) noint2')); (have G4 := qH hd); clear hb hd))
  go_wp2
  refine bodyPost_ret (v := .agg #[.bool (t && decide (m ≠ 0)), .slice A4 (digs m).length c4]) (by simp [results, Tryz.results81, go_sem, hc4]) rfl ?_
  exact zr_give (by rw [M.out, sg_take, sg_take]) ((G4.out.set_off HO4.out _ _).set_off HO4.out _ _) ((((below3 w _ _ _).trans (K4.out.mono (by simp; omega))).setCell (by simp; omega) _).setCell (by simp; omega) _)
theorem zmake_any (A : Option Addr) (c : Nat) (s : Bool) (xs : List Nat) (w : World) (h : Dg w A c xs) (hl : xs.length ≤ 1000000) :
    Calls Tryz.prog 42 #[.bool s, .slice A xs.length c] w fun e w' => Zr (sg s (val xs)) w e w' := by
  have l1 := digs_len_le h.2.1
  go_enter Tryz.func42, Tryz.ntmps42
  go_wp2_with fail
  refine (trim_any A c xs _ (h.below (below1 _ _)) (by omega)).mono ?_
  rintro e w1 ⟨A1, c1, rfl, hd, hb⟩
  have K1 := qH hb
  have G1 := qH hd
  obtain ⟨hc1, hf1⟩ := bcell hb
  clear hb hd h
  go_wp2_with fail
  refine (give_any A1 c1 (val xs) s _ G1.out (by omega)).mono ?_
  rintro e w2 ⟨A2, c2, rfl, hd, hb⟩
  have K2 := qH (K1.out.trans (hb.mono K1.out.size))
  have G2 := qH hd
  have HO2 := qH (off_box (g := w.heap.size) hd K2.out rfl noint2')
  obtain ⟨hc2, hf2⟩ := bcell K2.out
  clear hb hd
  go_wp2
  refine bodyPost_ret (v := .agg #[.bool (s && decide (val xs ≠ 0)), .slice A2 (digs (val xs)).length c2]) (by simp [results, Tryz.results42, go_sem, hc2]) rfl ?_
  exact zr_give rfl ((G2.out.set_off HO2.out _ _).set_off HO2.out _ _) ((((below1 w _).trans (K2.out.mono (by simp))).setCell (by simp) _).setCell (by simp) _)
theorem wrap_u64_eq (x : Int) : IntKind.u64.wrap x = x % 18446744073709551616 := by simp [IntKind.wrap, IntKind.signed, IntKind.bits]
theorem zfrom_any (n : Int) (w : World) (h0 : -9223372036854775808 ≤ n) (h1 : n ≤ 9223372036854775807) :
    Calls Tryz.prog 63 #[.int .i64 n] w fun e w' => Zr n w e w' := by
  have lf := digs_small (n := n.natAbs) (by omega)
  by_cases hn : n < 0
  · have d0 : decide (n < 0) = true := by simp [hn]
    have HS := qH (show sg true n.natAbs = n by unfold sg; simp; omega)
    have HW := qH (show IntKind.u64.wrap (-IntKind.u64.wrap n) = ((n.natAbs : Nat) : Int) by rw [wrap_u64_eq, wrap_u64_eq]; omega)
    go_enter Tryz.func63, Tryz.ntmps63
    go_wp2_with fail
    refine (from_l (i := _) (k := n.natAbs) (live_start _) HW.out (by omega)).mono ?_
    rintro e w1 ⟨A1, c1, rfl, hL⟩
    have K1 := qH hL.1
    have G1 := qH (hL.get (A := A1) (c := c1) (xs := digs n.natAbs) (by simp))
    clear hL
    go_wp2_with fail
    refine (give_any A1 c1 n.natAbs true _ G1.out (by omega)).mono ?_
    rintro e w2 ⟨A2, c2, rfl, hd, hb⟩
    have K2 := qH (K1.out.trans (hb.mono K1.out.size))
    have G2 := qH hd
    have HO2 := qH (off_box (g := w.heap.size) hd K2.out rfl noint2')
    obtain ⟨hc2, hf2⟩ := bcell K2.out
    clear hb hd
    go_wp2
    refine bodyPost_ret (v := .agg #[.bool (true && decide (n.natAbs ≠ 0)), .slice A2 (digs n.natAbs).length c2]) (by simp [results, Tryz.results63, go_sem, hc2]) rfl ?_
    exact zr_give HS.out ((G2.out.set_off HO2.out _ _).set_off HO2.out _ _) ((((below1 w _).trans (K2.out.mono (by simp))).setCell (by simp) _).setCell (by simp) _)
  · have d0 : decide (n < 0) = false := by simp; omega
    have HS := qH (show sg false n.natAbs = n by unfold sg; simp; omega)
    have HW := qH (show n = ((n.natAbs : Nat) : Int) by omega)
    go_enter Tryz.func63, Tryz.ntmps63
    go_wp2_with fail
    refine (from_l (i := _) (k := n.natAbs) (live_start _) HW.out (by omega)).mono ?_
    rintro e w1 ⟨A1, c1, rfl, hL⟩
    have K1 := qH hL.1
    have G1 := qH (hL.get (A := A1) (c := c1) (xs := digs n.natAbs) (by simp))
    clear hL
    go_wp2_with fail
    refine (give_any A1 c1 n.natAbs false _ G1.out (by omega)).mono ?_
    rintro e w2 ⟨A2, c2, rfl, hd, hb⟩
    have K2 := qH (K1.out.trans (hb.mono K1.out.size))
    have G2 := qH hd
    have HO2 := qH (off_box (g := w.heap.size) hd K2.out rfl noint2')
    obtain ⟨hc2, hf2⟩ := bcell K2.out
    clear hb hd
    go_wp2
    refine bodyPost_ret (v := .agg #[.bool (false && decide (n.natAbs ≠ 0)), .slice A2 (digs n.natAbs).length c2]) (by simp [results, Tryz.results63, go_sem, hc2]) rfl ?_
    exact zr_give HS.out ((G2.out.set_off HO2.out _ _).set_off HO2.out _ _) ((((below1 w _).trans (K2.out.mono (by simp))).setCell (by simp) _).setCell (by simp) _)
theorem rat_any (A : Option Addr) (c : Nat) (xs : List Nat) (i : Nat) (w : World) (h : Dg w A c xs) (hi : i ≤ 9223372036854775807) :
    Calls Tryz.prog 107 #[.slice A xs.length c, .int .i64 i] w fun e w' => e = .returned (.int .u64 (xs[i]?.getD 0 : Nat)) ∧ w = w' := by
  by_cases h1 : xs.length ≤ i
  · have d0 : decide (xs.length ≤ i) = true := by simp [h1]
    have HF : Hid ((0 : Int) = ((xs[i]?.getD 0 : Nat) : Int)) := by rw [List.getElem?_eq_none h1]; rfl
    clear h1
    go_enter Tryz.func107, Tryz.ntmps107
    go_wp2
    go_ret
    exact ⟨ret_i HF.out, rfl⟩
  · have d0 : decide (xs.length ≤ i) = false := by simp; omega
    obtain ⟨b, off, hA, hb, hcx⟩ := h.2.2 (by omega)
    have hx := hcx i (by omega)
    have hX := getD_lt h.2.1 i
    have hlt : i < xs.length := by omega
    generalize xs[i]?.getD 0 = x at *
    clear hcx h1 h
    subst hA
    go_enter Tryz.func107, Tryz.ntmps107
    go_wp2
    go_ret
    exact ⟨rfl, rfl⟩
theorem wpList_append_nil {P : Program} {w : World} {ops : Array Oper} {rest : List Oper} {o : Oper} {a : Act} {Q : Exit → Act → World → Prop} (hgd : o.guard = none) (s x : Operand) (t : TypeId)
    (ho : o.op = .call { callee := .builtin .append, args := #[s, x], argTypes := #[t, t] }) (e : TypeId) (i : TypeInfo) (ht : P.underlying t = some (.slice e)) (hi : P.info? e = some i)
    (c : Nat) (hs : a.eval s = .slice none 0 0) (hx : a.eval x = .slice none 0 c) (h : wpList P ops Q rest (a.put o.dst (.slice none 0 0)) w) : wpList P ops Q (o :: rest) a w := by
  refine wpList_plain hgd fun K hK => ?_
  have hrun : (Builtin.append_ #[t, t] o.type #[.slice none 0 0, .slice none 0 c]).run P w = .ok (.slice none 0 0) w := by
    simp [Builtin.append_, run_underlying ht, sizeOf, typeInfo, hi, Builtin.lenOf, Builtin.firstCells]
  unfold Oper.wp
  simp [execOp, ho, resolve, invoke, builtin, hs, hx, hrun, Result.andThen]
  exact hK _ _ h
theorem rtrim_f (A : Option Addr) (c : Nat) (xs : List Nat) (w : World) (h : Dg w A c xs) (hl : xs.length ≤ 16777216) :
    Calls Tryz.prog 95 #[.slice A xs.length c] w fun e w' => ∃ A' c', e = .returned (.slice A' (digs (val xs)).length c') ∧ Dg w' A' c' (digs (val xs)) ∧ Below w.heap.size w w' ∧ Fr w.heap.size A' := by
  obtain ⟨i0, hi, hz0, hz1, hz2⟩ := info_parts elem_info
  rcases A with _ | A
  · have h0 : xs = [] := by
      rcases Nat.eq_zero_or_pos xs.length with h0 | h0
      · exact List.eq_nil_of_length_eq_zero h0
      · obtain ⟨b, off, e, _⟩ := h.2.2 h0
        cases e
    subst h0
    clear h hl
    rw [show val [] = 0 from rfl, digs_zero]
    go_enter Tryz.func95, Tryz.ntmps95
    go_wp2
    go_loop [3] (fun n => n = .int .i64 0) (fun n => (intOf n).toNat)
    case atStart => rfl
    case round =>
      subst hrel
      go_wp2_with (at_builtin; refine wpList_append_nil rfl _ _ 22 rfl 67 i0 Tryz.underlying22 hi c rfl rfl ?_)
      go_ret
      exact ⟨none, 0, rfl, Dg.nil_ _ _, Below.refl _ _, fr_none _⟩
  · have H := qH h
    have hcap := h.1
    clear h
    go_enter Tryz.func95, Tryz.ntmps95
    go_wp2
    go_loop [3] (fun n => ∃ k : Nat, k ≤ xs.length ∧ n = .int .i64 k ∧ Hid (∀ j, k ≤ j → j < xs.length → xs[j]?.getD 0 = 0)) (fun n => (intOf n).toNat)
    case atStart => exact ⟨xs.length, Nat.le_refl _, rfl, fun j h1 h2 => by omega⟩
    case round =>
      obtain ⟨k, hk, rfl, hz⟩ := hrel
      by_cases hk0 : k = 0
      · subst hk0
        have HT := qH (show ([] : List Value) = cells (digs (val xs)) from by rw [← digs_take H.out.2.1 hk hz (fun h => absurd h (by omega))]; rfl)
        clear hz hk
        go_wp2_with (at_builtin; refine wpList_append_own _ rfl _ _ 22 rfl w.heap.size 67 i0 (.int .u32 0) 1 4 Tryz.underlying22 hi hz0 hz1 hz2 rfl (by decide) _ _ _ rfl (World.ownsRow_nil _ _ _ _) A 0 c [] rfl rfl (fun j u hj => by simp at hj) (fun u hu => by simp at hu) (by unfold maxLen; omega) (by omega) (Nat.le_refl _) ?_)
        intro v' w1 hown hgrow hnil
        try simp only [Nat.add_zero, List.append_nil] at hown
        rw [HT.out] at hown
        obtain ⟨A', c', hv, hd, hfr⟩ := dg_of_own_f hown (ok_digs _)
        have HV := qH hv
        have HFR := qH hfr
        clear hfr hv hown hnil
        go_wp2
        go_ret
        exact ⟨A', c', by rw [← HV.out]; rfl, hd, (Below.refl _ w).grown hgrow (Nat.le_refl _) (by intro k hk; simp [Value.ownBlock] at hk), HFR.out⟩
      · obtain ⟨b, off, hA, hb, hcell⟩ := H.out.2.2 (by omega)
        have hc1 := hcell (k - 1) (by omega)
        have hkc : k ≤ c := by omega
        have hk1 : 0 < k := by omega
        injection hA with hA
        by_cases hx : xs[k - 1]?.getD 0 = 0
        · have hx' : ((xs[k - 1]?.getD 0 : Nat) == (0 : Int)) = true := by rw [hx]; rfl
          have HX := qH hx
          clear hcell hx
          subst hA
          go_wp2
          go_round
          case rel =>
            refine ⟨k - 1, by omega, by go_num, fun j h1 h2 => ?_⟩
            by_cases hj : j = k - 1
            · subst hj; exact HX.out
            · exact hz j (by omega) h2
          case measure => simp [intOf]; omega
        · have hx' : ((xs[k - 1]?.getD 0 : Nat) == (0 : Int)) = false := by simp; omega
          have HT := qH (show cells (xs.take k) = cells (digs (val xs)) from by rw [digs_take H.out.2.1 hk hz (fun _ => hx)])
          clear hcell hx
          subst hA
          go_wp2_with (at_builtin; refine wpList_append_own _ rfl _ _ 22 rfl w.heap.size 67 i0 (.int .u32 0) 1 4 Tryz.underlying22 hi hz0 hz1 hz2 rfl (by decide) _ _ _ rfl (World.ownsRow_nil _ _ _ _) ⟨b, off, none⟩ k c (cells (xs.take k)) rfl ?qc1 ?qc2 ?qc3 ?qc4 ?qc5 ?qc6 ?_)
          case qc1 => simp [cells] <;> omega
          case qc2 =>
            intro j u hj
            obtain ⟨hlt, rfl⟩ := cells_get hj
            rw [List.length_take] at hlt
            have h1 : j < k := Nat.lt_of_lt_of_le hlt (Nat.min_le_left _ _)
            have h2 : j < xs.length := Nat.lt_of_lt_of_le hlt (Nat.min_le_right _ _)
            rw [List.getElem?_take, if_pos h1]
            have hdc := dg_cell H.out (cells_at h2)
            rw [Addr.add_lit] at hdc
            exact hdc
          case qc3 => intro u hu; unfold cells at hu; obtain ⟨x, _, rfl⟩ := List.mem_map.1 hu; rfl
          case qc4 => unfold maxLen; omega
          case qc5 => omega
          intro v' w1 hown hgrow hnil
          rw [HT.out] at hown
          obtain ⟨A', c', hv, hd, hfr⟩ := dg_of_own_f hown (ok_digs _)
          have HV := qH hv
          have HFR := qH hfr
          clear hfr hv hown hnil
          go_wp2
          go_ret
          exact ⟨A', c', by rw [← HV.out]; rfl, hd, (Below.refl _ w).grown hgrow (Nat.le_refl _) (by intro k hk; simp [Value.ownBlock] at hk), HFR.out⟩
theorem rtrim_any (A : Option Addr) (c : Nat) (xs : List Nat) (w : World) (h : Dg w A c xs) (hl : xs.length ≤ 16777216) :
    Calls Tryz.prog 95 #[.slice A xs.length c] w fun e w' => ∃ A' c', e = .returned (.slice A' (digs (val xs)).length c') ∧ Dg w' A' c' (digs (val xs)) ∧ Below w.heap.size w w' :=
  (rtrim_f A c xs w h hl).mono fun _ _ ⟨A', c', h1, h2, h3, _⟩ => ⟨A', c', h1, h2, h3⟩
theorem or_join' (a b : Nat) (ha : a < 4294967296) (hb : b < 4294967296) : bits BinOp.or IntKind.u64 (a : Int) ((b : Int) * 4294967296) = ((a + 4294967296 * b : Nat) : Int) := by
  have e : (b : Int) * 4294967296 = ((b * 4294967296 : Nat) : Int) := by omega
  rw [e, u64_or_nat _ _ (by omega) (by omega), Nat.or_comm, nat_join 32 _ _ (by omega) (by omega)]
  congr 1
  omega
theorem rsmall_any (A : Option Addr) (c : Nat) (xs : List Nat) (w : World) (h : Dg w A c xs) (hl : xs.length ≤ 16777216) :
    Calls Tryz.prog 83 #[.slice A xs.length c] w fun e w' => e = .returned (.tuple #[.int .u64 (small? (val xs)), .bool (decide (val xs < 18446744073709551616))]) ∧ Below w.heap.size w w' := by
  have H := qH h
  clear h
  go_enter Tryz.func83, Tryz.ntmps83
  go_wp2_with fail
  refine (rtrim_any A c xs _ H.out hl).mono ?_
  rintro e w1 ⟨A1, c1, rfl, h1, hb⟩
  have H1 := qH h1
  have HB := qH hb
  clear h1 hb
  by_cases hlt : val xs < 18446744073709551616
  · have hs := digs_small hlt
    have hv := val_digs (val xs)
    have o := ok_digs (val xs)
    have x0 := getD_lt o 0
    have x1 := getD_lt o 1
    have d0 : decide (2 < (digs (val xs)).length) = false := by simp; omega
    have HV : (digs (val xs))[0]?.getD 0 + 4294967296 * ((digs (val xs))[1]?.getD 0) = val xs := by
      generalize digs (val xs) = D at *
      rcases D with _ | ⟨d0, _ | ⟨d1, _ | ⟨d2, r⟩⟩⟩
      · simp [val] at hv ⊢; omega
      · simp [val] at hv ⊢; omega
      · simp [val] at hv ⊢; omega
      · simp at hs
    have HF := qH (small_yes HV.symm hlt)
    have HO := qH (or_join' _ _ x0 x1)
    clear hlt hv o HV
    generalize digs (val xs) = D at *
    have r0 := qH (rat_any A1 c1 D 0 w1 H1.out (by omega))
    have r1 := qH (rat_any A1 c1 D 1 w1 H1.out (by omega))
    generalize D[0]?.getD 0 = x at *
    generalize D[1]?.getD 0 = y at *
    go_wp2_with fail
    refine r0.out.mono ?_
    rintro e w' ⟨rfl, rfl⟩
    go_wp2_with fail
    refine r1.out.mono ?_
    rintro e w' ⟨rfl, rfl⟩
    go_wp2
    go_ret2
    exact ⟨ret_ub ⟨HO.out.trans HF.out.1, HF.out.2⟩, HB.out⟩
  · have HF := qH (small_no (n := val xs) (by omega))
    have hg := digs_great (n := val xs) (by omega)
    have d0 : decide (2 < (digs (val xs)).length) = true := by simp; omega
    clear hlt
    go_wp2
    go_ret2
    exact ⟨ret_ub HF.out, HB.out⟩
theorem rbits_any (A : Option Addr) (c : Nat) (xs : List Nat) (w : World) (h : Dg w A c xs) (hl : xs.length ≤ 16777216) :
    Calls Tryz.prog 70 #[.slice A xs.length c] w fun e w' => e = .returned (.int .i64 (blen (val xs))) ∧ Below w.heap.size w w' := by
  have l1 := digs_len_le h.2.1
  have H := qH h
  clear h
  go_enter Tryz.func70, Tryz.ntmps70
  go_wp2_with fail
  refine (rtrim_any A c xs _ H.out hl).mono ?_
  rintro e w1 ⟨A1, c1, rfl, h1, hb⟩
  have H1 := qH h1
  have HB := qH hb
  clear h1 hb
  by_cases h0 : val xs = 0
  · have e0 : digs (val xs) = [] := by rw [h0, digs_zero]
    have HF := qH (show (0 : Int) = (blen (val xs) : Int) from by rw [h0, blen_zero]; rfl)
    rw [e0]
    clear h0 e0
    go_wp2
    go_ret
    exact ⟨ret_i HF.out, HB.out⟩
  · have hb := blen_digs (val xs) h0
    have hn : (digs (val xs)).length ≠ 0 := fun h => h0 (digs_nil.1 h)
    have ok := ok_digs (val xs)
    generalize digs (val xs) = X at *
    obtain ⟨b, off, hA, hbk, hcx⟩ := H1.out.2.2 (by omega)
    have hx := hcx (X.length - 1) (by omega)
    have hlt := getD_lt ok (X.length - 1)
    generalize X[X.length - 1]?.getD 0 = d at *
    have hbl : blen d ≤ 64 := by rw [blen_eq _ (by omega)]; exact Lib.bitLen_le d 64 (by omega) (by omega)
    have HBL := qH hb
    have t0 : 0 < X.length := by omega
    have t1 : ((X.length : Int) == 0) = false := beq_eq_false_iff_ne.2 (by omega)
    clear hcx hb h0 hn ok
    subst hA
    go_wp2
    go_loop [4, 5] (fun bi kk => ∃ i k : Nat, bi = .int .i64 (32 * ((X.length : Int) - 1) + i) ∧ kk = .int .u32 k ∧ k < 4294967296 ∧ Hid (i + blen k = blen d)) (fun _ kk => (intOf kk).toNat)
    case atStart => exact ⟨0, d, by go_num, rfl, hlt, by simp [Hid]⟩
    case round =>
      obtain ⟨i, k, rfl, rfl, hk, HE⟩ := hrel
      have hi : i ≤ 64 := by have := HE.out; omega
      by_cases h0 : k = 0
      · subst h0
        have HI := qH (show (32 * ((X.length : Int) - 1) + i) = (blen (val xs) : Int) from by have := HE.out; rw [blen_zero] at this; rw [HBL.out]; omega)
        clear HE
        go_wp2
        go_ret
        exact ⟨ret_i HI.out, HB.out⟩
      · have hkp : 0 < k := by omega
        have HK := qH (blen_pos h0)
        go_wp2
        go_round
        case rel => exact ⟨i + 1, k / 2, by go_num, by go_num, by omega, by have := HE.out; rw [HK.out] at this; show i + 1 + blen (k / 2) = blen d; omega⟩
        case measure => simp [intOf]; omega
theorem rbit_any (A : Option Addr) (c : Nat) (xs : List Nat) (i : Int) (w : World) (h : Dg w A c xs) (hl : xs.length ≤ 16777216) (hi : -9223372036854775808 ≤ i) (hi' : i ≤ 9223372036854775807) :
    Calls Tryz.prog 85 #[.slice A xs.length c, .int .i64 i] w fun e w' => e = .returned (.bool (bitAt (val xs) i)) ∧ w = w' := by
  by_cases h0 : i < 0
  · have HF : Hid (false = bitAt (val xs) i) := by unfold bitAt; rw [decide_eq_false (by omega)]; rfl
    have d0 : decide (i < 0) = true := by simp; omega
    go_enter Tryz.func85, Tryz.ntmps85
    go_wp2
    go_ret
    exact ⟨ret_b HF.out, rfl⟩
  · obtain ⟨n, rfl⟩ := Int.eq_ofNat_of_zero_le (show 0 ≤ i by omega)
    have hb := val_bit xs (n / 32) (n % 32) h.2.1 (by omega)
    rw [show 32 * (n / 32) + n % 32 = n by omega] at hb
    have HF : Hid (bitAt (val xs) n = (xs[n / 32]?.getD 0).testBit (n % 32)) := by unfold bitAt; rw [decide_eq_true (by omega), Int.toNat_natCast, hb]; rfl
    clear hb
    by_cases h1 : xs.length ≤ n / 32
    · have d1 : decide ((xs.length : Int) ≤ (n : Int) / 32) = true := by simp; omega
      have HG : Hid (xs[n / 32]?.getD 0 = 0) := by rw [List.getElem?_eq_none h1]; rfl
      clear h1 h0
      go_enter Tryz.func85, Tryz.ntmps85
      go_wp2
      go_ret
      exact ⟨ret_b (by rw [HF.out, HG.out]; simp), rfl⟩
    · obtain ⟨b, off, hA, hbk, hcx⟩ := h.2.2 (by omega)
      have hx := hcx (n / 32) (by omega)
      have hlt := getD_lt h.2.1 (n / 32)
      have h2 : n / 32 < xs.length := by omega
      generalize xs[n / 32]?.getD 0 = d at *
      clear hcx h1 h0 h
      subst hA
      go_enter Tryz.func85, Tryz.ntmps85
      go_wp2
      go_ret
      refine ⟨ret_b ?_, rfl⟩
      simp only [HF.out]
      exact bit_fin d (n % 32) hlt
theorem rfrom_any (n : Nat) (w : World) (hn : n < 18446744073709551616) :
    Calls Tryz.prog 72 #[.int .u64 n] w fun e w' => ∃ A' c', e = .returned (.slice A' (digs n).length c') ∧ Dg w' A' c' (digs n) ∧ Below w.heap.size w w' := by
  have hv : val [n % 4294967296, n / 4294967296] = n := by simp only [val]; omega
  have hd := dg_two w ((n : Int) % 4294967296) ((n : Int) / 4294967296) (n % 4294967296) (n / 4294967296) (by omega) (by omega) 67 (by omega) (by omega)
  have hs := rtrim_any _ _ _ _ hd (by simp)
  rw [hv] at hs
  have HS := qH hs
  clear hs hv hd
  go_enter Tryz.func72, Tryz.ntmps72
  go_wp2_with fail
  refine Calls.mono (show Calls Tryz.prog 95 #[.slice _ 2 2] _ _ from HS.out) ?_
  rintro e w' ⟨A1, c1, rfl, h1, hb⟩
  have H1 := qH h1
  clear h1
  go_wp2
  go_ret
  exact ⟨A1, c1, rfl, H1.out, ((Below.refl _ _).alloc (Nat.le_refl _) _).trans (hb.mono (by simp))⟩
def pad (xs : List Nat) (N : Nat) : List Nat := xs ++ List.replicate (N - xs.length) 0
theorem pad_len {xs : List Nat} {N : Nat} (h : xs.length ≤ N) : (pad xs N).length = N := by simp [pad]; omega
theorem pad_val (xs : List Nat) (N : Nat) : val (pad xs N) = val xs := by rw [pad, val_append, val_zeros]; simp
theorem pad_ok {xs : List Nat} (N : Nat) (h : ok32 xs) : ok32 (pad xs N) := by
  intro x hx
  rcases List.mem_append.1 hx with hx | hx
  · exact h x hx
  · rw [List.eq_of_mem_replicate hx]; omega
theorem pad_get (xs : List Nat) (N j : Nat) : (pad xs N)[j]?.getD 0 = xs[j]?.getD 0 := by
  rcases Nat.lt_or_ge j xs.length with h | h
  · rw [pad, List.getElem?_append_left h]
  · rw [pad, List.getElem?_append_right h, List.getElem?_eq_none h, List.getElem?_replicate]
    split <;> rfl
theorem val_take_step (xs : List Nat) (k : Nat) : val (xs.take (k + 1)) = val (xs.take k) + 4294967296 ^ k * (xs[k]?.getD 0) := by
  rcases Nat.lt_or_ge k xs.length with h | h
  · rw [take_one h, val_snoc, List.length_take, Nat.min_eq_left (by omega)]
  · rw [List.take_of_length_le (by omega), List.take_of_length_le h, List.getElem?_eq_none h]; simp
theorem val_take_mod {xs : List Nat} (h : ok32 xs) (k : Nat) : val (xs.take k) = val xs % 4294967296 ^ k := by
  have e : val xs = val (xs.take k) + 4294967296 ^ k * val (xs.drop k) := by
    rcases Nat.lt_or_ge k xs.length with hl | hl
    · conv => lhs; rw [← List.take_append_drop k xs, val_append]
      rw [List.length_take, Nat.min_eq_left (by omega)]
    · rw [List.take_of_length_le hl, List.drop_eq_nil_of_le hl]; simp [val]
  have hlt : val (xs.take k) < 4294967296 ^ k := by
    have h1 := val_lt (xs := xs.take k) (fun x hx => h x (List.mem_of_mem_take hx))
    rw [List.length_take] at h1
    exact Nat.lt_of_lt_of_le h1 (Nat.pow_le_pow_right (by omega) (Nat.min_le_left _ _))
  rw [e, Nat.add_mul_mod_self_left, Nat.mod_eq_of_lt hlt]
theorem pad_lt {xs ys : List Nat} {N k : Nat} (hx : ok32 xs) (hy : ok32 ys) (lx : xs.length ≤ N) (ly : ys.length ≤ N) (hk : k < N) (hj : ∀ j, k < j → j < N → xs[j]?.getD 0 = ys[j]?.getD 0) (h : xs[k]?.getD 0 < ys[k]?.getD 0) : val xs < val ys := by
  rw [← pad_val xs N, ← pad_val ys N]
  exact val_lt_at _ _ k (by rw [pad_len lx, pad_len ly]) (pad_ok N hx) (pad_ok N hy) (by rw [pad_len lx]; exact hk) (fun j a b => by rw [pad_len lx] at b; rw [pad_get, pad_get]; exact hj j a b) (by rw [pad_get, pad_get]; exact h)
theorem pad_eq {xs ys : List Nat} {N : Nat} (lx : xs.length ≤ N) (ly : ys.length ≤ N) (hj : ∀ j, j < N → xs[j]?.getD 0 = ys[j]?.getD 0) : val xs = val ys := by
  rw [← pad_val xs N, ← pad_val ys N]
  exact congrArg val (val_eq_of (by rw [pad_len lx, pad_len ly]) (fun j b => by rw [pad_len lx] at b; rw [pad_get, pad_get]; exact hj j b))
theorem rcmp_any (A B : Option Addr) (c d : Nat) (xs ys : List Nat) (w : World) (h : Dg w A c xs) (h' : Dg w B d ys) (hl : xs.length ≤ 16777216) (hl' : ys.length ≤ 16777216) :
    Calls Tryz.prog 109 #[.slice A xs.length c, .slice B ys.length d] w fun e w' => e = .returned (.int .i64 (cmpi (val xs) (val ys))) ∧ w = w' := by
  have hN : ∃ N : Nat, max (xs.length : Int) (ys.length : Int) = (N : Int) ∧ xs.length ≤ N ∧ ys.length ≤ N ∧ N ≤ 16777216 := ⟨max xs.length ys.length, by omega, by omega, by omega, by omega⟩
  obtain ⟨N, eN, n1, n2, n3⟩ := hN
  have EN := qH eN
  have RX := qH (fun (k : Nat) (hk : k ≤ 9223372036854775807) => rat_any A c xs k w h hk)
  have RY := qH (fun (k : Nat) (hk : k ≤ 9223372036854775807) => rat_any B d ys k w h' hk)
  have O1 := qH h.2.1
  have O2 := qH h'.2.1
  clear eN h h'
  go_enter Tryz.func109, Tryz.ntmps109
  go_wp2
  go_loop [5] (fun i => ∃ k : Nat, k ≤ N ∧ i = .int .i64 (↑k - 1) ∧ Hid (∀ j, k ≤ j → j < N → xs[j]?.getD 0 = ys[j]?.getD 0)) (fun i => (intOf i + 1).toNat)
  case atStart => exact ⟨N, Nat.le_refl _, congrArg (Value.int .i64) (by rw [EN.out]), fun j a b => by omega⟩
  case round =>
    obtain ⟨k, hk, rfl, hz⟩ := hrel
    rcases k with _ | k
    · rw [show (((0 : Nat) : Int) - 1) = -1 from rfl]
      have HF := qH (cmpi_eq (a := val xs) (b := val ys) (pad_eq n1 n2 (fun j hj => hz j (Nat.zero_le _) hj)))
      go_wp2
      go_ret
      exact ⟨ret_i HF.out.symm, rfl⟩
    · rw [show (((k + 1 : Nat) : Int) - 1) = (k : Int) from by omega]
      have hX := getD_lt O1.out k
      have hY := getD_lt O2.out k
      have rx := qH (RX.out k (by omega))
      have ry := qH (RY.out k (by omega))
      have HJ := qH (fun j (a : k < j) (b : j < N) => hz j (by omega) b)
      rcases Nat.lt_trichotomy (xs[k]?.getD 0) (ys[k]?.getD 0) with h | h | h
      · have HF := qH (cmpi_lt (pad_lt O1.out O2.out n1 n2 (by omega) HJ.out h))
        have d0 : decide (xs[k]?.getD 0 < ys[k]?.getD 0) = true := by simp [h]
        clear h
        go_wp2_with fail
        refine rx.out.mono ?_
        rintro e w' ⟨rfl, rfl⟩
        go_wp2_with fail
        refine ry.out.mono ?_
        rintro e w' ⟨rfl, rfl⟩
        go_wp2
        go_ret
        exact ⟨ret_i HF.out.symm, rfl⟩
      · have HX := qH h
        have d0 : decide (xs[k]?.getD 0 < ys[k]?.getD 0) = false := by simp; omega
        have d1 : decide (ys[k]?.getD 0 < xs[k]?.getD 0) = false := by simp; omega
        clear h
        go_wp2_with fail
        refine rx.out.mono ?_
        rintro e w' ⟨rfl, rfl⟩
        go_wp2_with fail
        refine ry.out.mono ?_
        rintro e w' ⟨rfl, rfl⟩
        go_wp2_with fail
        refine rx.out.mono ?_
        rintro e w' ⟨rfl, rfl⟩
        go_wp2_with fail
        refine ry.out.mono ?_
        rintro e w' ⟨rfl, rfl⟩
        go_wp2
        go_round
        case rel =>
          refine ⟨k, by omega, rfl, fun j a b => ?_⟩
          rcases Nat.eq_or_lt_of_le a with e | e
          · subst e; exact HX.out
          · exact hz j (by omega) b
        case measure => simp [intOf] <;> omega
      · have HF := qH (cmpi_gt (pad_lt O2.out O1.out n2 n1 (by omega) (fun j a b => (HJ.out j a b).symm) h))
        have d0 : decide (xs[k]?.getD 0 < ys[k]?.getD 0) = false := by simp; omega
        have d1 : decide (ys[k]?.getD 0 < xs[k]?.getD 0) = true := by simp [h]
        clear h
        go_wp2_with fail
        refine rx.out.mono ?_
        rintro e w' ⟨rfl, rfl⟩
        go_wp2_with fail
        refine ry.out.mono ?_
        rintro e w' ⟨rfl, rfl⟩
        go_wp2_with fail
        refine rx.out.mono ?_
        rintro e w' ⟨rfl, rfl⟩
        go_wp2_with fail
        refine ry.out.mono ?_
        rintro e w' ⟨rfl, rfl⟩
        go_wp2
        go_ret
        exact ⟨ret_i HF.out.symm, rfl⟩
theorem rsum_step {xs ys zs : List Nat} {k s d c t : Nat} (hz : zs.length = k) (h : val zs + 4294967296 ^ k * c = val (xs.take k) + val (ys.take k))
    (hs : s + 4294967296 * d = xs[k]?.getD 0 + ys[k]?.getD 0 + c) (ht : t = s) : val (zs ++ [t]) + 4294967296 ^ (k + 1) * d = val (xs.take (k + 1)) + val (ys.take (k + 1)) := by
  subst ht
  rw [val_take_step, val_take_step, val_snoc, hz, Nat.pow_succ]
  have : 4294967296 ^ k * t + 4294967296 ^ k * 4294967296 * d = 4294967296 ^ k * (xs[k]?.getD 0) + 4294967296 ^ k * (ys[k]?.getD 0) + 4294967296 ^ k * c := by
    rw [Nat.mul_assoc, ← Nat.mul_add, hs, Nat.mul_add, Nat.mul_add]
  omega
theorem sum_end {a b c p q z : Nat} (h : c + p * z = a + b) (ha : a < q) (hb : b < q) (hp : 2 * q ≤ p) : c = a + b := by
  rcases z with _ | z
  · omega
  · have : p ≤ p * (z + 1) := Nat.le_mul_of_pos_right _ (by omega)
    omega
theorem pow_twice (N : Nat) : 2 * 4294967296 ^ N ≤ 4294967296 ^ (N + 1) := by
  rw [Nat.pow_succ]
  have := Nat.mul_le_mul_left (4294967296 ^ N) (show 2 ≤ 4294967296 by omega)
  rw [Nat.mul_comm 2]
  exact this
theorem rsum_end {xs ys zs : List Nat} {N z : Nat} (o1 : ok32 xs) (o2 : ok32 ys) (n1 : xs.length ≤ N) (n2 : ys.length ≤ N) (h : val zs + 4294967296 ^ (N + 1) * z = val (xs.take (N + 1)) + val (ys.take (N + 1))) : val zs = val xs + val ys := by
  rw [List.take_of_length_le (by omega), List.take_of_length_le (by omega)] at h
  exact sum_end h (Nat.lt_of_lt_of_le (val_lt o1) (Nat.pow_le_pow_right (by omega) n1)) (Nat.lt_of_lt_of_le (val_lt o2) (Nat.pow_le_pow_right (by omega) n2)) (pow_twice N)
theorem ok_snoc {zs : List Nat} (h : ok32 zs) {x : Nat} (hx : x < 4294967296) : ok32 (zs ++ [x]) := by
  intro z hz
  rcases List.mem_append.1 hz with hz | hz
  · exact h z hz
  · simp at hz; omega
theorem own_snoc {w : World} {base : Nat} {e : TypeId} {v : Value} {k : Nat} {zs : List Nat} {x : Int} {t : Nat} (h : w.ownsRow base e 1 v (k + 1) (cells zs ++ [.int .u32 x])) (hx : x = (t : Int)) : w.ownsRow base e 1 v (k + 1) (cells (zs ++ [t])) := by
  subst hx
  simpa [cells] using h
theorem cell_new (w : World) (x : Value) (t : TypeId) : ∀ j u, [x][j]? = some u → (w.alloc (.cells #[x] t)).cell? ((⟨w.heap.size, 0, none⟩ : Addr).add j) = some u := by
  intro j u hj
  match j, hj with
  | 0, hj =>
    simp at hj; subst hj
    rw [Addr.add_lit, cell_of_row _ _ _ _ _ _ (heap_alloc_new w _)]
    rfl
theorem radd_any (A B : Option Addr) (c d : Nat) (xs ys : List Nat) (w : World) (h : Dg w A c xs) (h' : Dg w B d ys) (hl : xs.length ≤ 1048576) (hl' : ys.length ≤ 1048576) :
    Calls Tryz.prog 87 #[.slice A xs.length c, .slice B ys.length d] w fun e w' => ∃ A' c', e = .returned (.slice A' (digs (val xs + val ys)).length c') ∧ Dg w' A' c' (digs (val xs + val ys)) ∧ Below w.heap.size w w' := by
  have hN : ∃ N : Nat, max (xs.length : Int) (ys.length : Int) = (N : Int) ∧ xs.length ≤ N ∧ ys.length ≤ N ∧ N ≤ 1048576 := ⟨max xs.length ys.length, by omega, by omega, by omega, by omega⟩
  obtain ⟨N, eN, n1, n2, n3⟩ := hN
  obtain ⟨i0, hinf, hz0, hz1, hz2⟩ := info_parts elem_info
  have H := qH h
  have H' := qH h'
  have O1 := qH h.2.1
  have O2 := qH h'.2.1
  clear h h'
  go_enter Tryz.func87, Tryz.ntmps87
  go_wp2
  go_loopw [5, 6, 7] (fun v cy i wr => ∃ (k z : Nat) (zs : List Nat), k ≤ N + 1 ∧ i = .int .i64 k ∧ cy = .int .u64 z ∧ z ≤ 1 ∧ wr.ownsRow w.heap.size 67 1 v k (cells zs) ∧ Hid (zs.length = k) ∧ ok32 zs ∧
    Hid (val zs + 4294967296 ^ k * z = val (xs.take k) + val (ys.take k)) ∧ Below w.heap.size w wr) (fun _ _ i _ => N + 1 - (intOf i).toNat)
  case atStart => exact ⟨0, 0, [], Nat.zero_le _, rfl, rfl, by omega, World.ownsRow_nil _ _ _ _, by simp [Hid], by intro x hx; simp at hx, by simp [Hid, val], Below.refl _ _⟩
  case round =>
    obtain ⟨k, z, zs, hk, rfl, rfl, hz, hown, HL, hok, HE, hbel⟩ := hrel
    by_cases hlt : k < N + 1
    · have d0 : decide ((k : Int) < max (xs.length : Int) (ys.length : Int) + 1) = true := by rw [eN]; simp; omega
      have rx := qH (rat_any A c xs k wr (H.out.keep hbel.size (fun b o h => hbel.cell (p := ⟨b, o, none⟩) h)) (by omega))
      have ry := qH (rat_any B d ys k wr (H'.out.keep hbel.size (fun b o h => hbel.cell (p := ⟨b, o, none⟩) h)) (by omega))
      have hX := getD_lt O1.out k
      have hY := getD_lt O2.out k
      generalize ex : xs[k]?.getD 0 = x at *
      generalize ey : ys[k]?.getD 0 = y at *
      have HX := qH ex
      have HY := qH ey
      clear ex ey eN
      go_wp2_with fail
      refine rx.out.mono ?_
      rintro e w' ⟨rfl, rfl⟩
      go_wp2_with fail
      refine ry.out.mono ?_
      rintro e w' ⟨rfl, rfl⟩
      go_wp2_with (at_builtin; refine wpList_append_own _ rfl _ _ 22 rfl w.heap.size 67 i0 (.int .u32 0) 1 4 Tryz.underlying22 hinf hz0 hz1 hz2 rfl (by decide) _ _ _ rfl (hown.alloc _) ⟨wr.heap.size, 0, none⟩ 1 1 [.int .u32 (((x : Int) + y + z) % 4294967296)] rfl rfl (cell_new _ _ _) (fun u hu => by simp at hu; subst hu; rfl) (by unfold maxLen; omega) (by omega) (by have := hbel.size; simp; omega) ?_)
      intro v' w1 hown1 hgrow hnil
      have e1 : ((x : Int) + y + z) % 4294967296 = (lo (x + y + z) : Nat) := by unfold lo; omega
      have hown2 := qH (own_snoc hown1 e1)
      have hb1 := qH ((hbel.alloc hbel.size _).grown hgrow (by simp; have := hbel.size; omega) (fun g hg => (hown.lt g hg).1))
      clear hown1 hgrow hnil hown e1
      go_wp2
      go_roundw
      case rel =>
        have hp := lo_hi (x + y + z)
        have hq := lo_lt (x + y + z)
        have e2 : ((x : Int) + y + z) / 4294967296 = (hi (x + y + z) : Nat) := by unfold hi; omega
        exact ⟨k + 1, hi (x + y + z), zs ++ [lo (x + y + z)], hlt, by go_num, by rw [e2], by omega, hown2.out, by have := HL.out; simp [Hid]; omega, ok_snoc hok hq,
          rsum_step HL.out HE.out (by rw [HX.out, HY.out]; exact hp) rfl, hb1.out⟩
      case measure => simp [intOf]; omega
    · have hk' : k = N + 1 := by omega
      have d0 : decide ((k : Int) < max (xs.length : Int) (ys.length : Int) + 1) = false := by rw [eN]; simp; omega
      obtain ⟨A2, c2, hv, hd⟩ := dg_of_own hown hok
      have HV := qH (show val zs = val xs + val ys from by
        have h1 := HE.out
        rw [hk'] at h1
        exact rsum_end O1.out O2.out n1 n2 h1)
      have HD := qH (rtrim_any A2 c2 zs wr hd (by have := HL.out; omega))
      rw [HV.out] at HD
      subst hv
      clear hown hd eN hlt
      go_wp2_with fail
      refine HD.out.mono ?_
      rintro e w2 ⟨A3, c3, rfl, h3, hb3⟩
      have H3 := qH h3
      have HB3 := qH hb3
      clear h3 hb3
      go_wp2
      go_ret
      exact ⟨A3, c3, rfl, H3.out, hbel.trans (HB3.out.mono hbel.size)⟩
theorem rsub_step {xs ys zs : List Nat} {k s d c t : Nat} (hz : zs.length = k) (h : val (xs.take k) + 4294967296 ^ k * c = val zs + val (ys.take k))
    (hs : s + ys[k]?.getD 0 + c = xs[k]?.getD 0 + 4294967296 * d) (ht : t = s) : val (xs.take (k + 1)) + 4294967296 ^ (k + 1) * d = val (zs ++ [t]) + val (ys.take (k + 1)) := by
  subst ht
  rw [val_take_step, val_take_step, val_snoc, hz, Nat.pow_succ]
  have : 4294967296 ^ k * (xs[k]?.getD 0) + 4294967296 ^ k * 4294967296 * d = 4294967296 ^ k * t + 4294967296 ^ k * (ys[k]?.getD 0) + 4294967296 ^ k * c := by
    rw [Nat.mul_assoc, ← Nat.mul_add, ← hs, Nat.mul_add, Nat.mul_add]
  omega
theorem rsub_end {xs ys zs : List Nat} {d : Nat} (o1 : ok32 xs) (o2 : ok32 ys) (o3 : ok32 zs) (hz : zs.length = xs.length) (hle : val ys ≤ val xs) (h : val (xs.take xs.length) + 4294967296 ^ xs.length * d = val zs + val (ys.take xs.length)) : val zs = val xs - val ys := by
  have hy : val (ys.take xs.length) = val ys := by
    rw [val_take_mod o2, Nat.mod_eq_of_lt (Nat.lt_of_le_of_lt hle (val_lt o1))]
  rw [List.take_of_length_le (Nat.le_refl _), hy] at h
  exact sub_end h (by rw [← hz]; exact val_lt o3) hle
theorem rsub_no (A B : Option Addr) (c d : Nat) (xs ys : List Nat) (w : World) (h : Dg w A c xs) (h' : Dg w B d ys) (hl : xs.length ≤ 1048576) (hl' : ys.length ≤ 1048576) (hlt : val xs < val ys) :
    Calls Tryz.prog 88 #[.slice A xs.length c, .slice B ys.length d] w fun e w' => e = .returned (.tuple #[.slice none 0 0, .bool false]) ∧ w = w' := by
  have HC := qH (rcmp_any A B c d xs ys w h h' (by omega) (by omega))
  rw [cmpi_lt hlt] at HC
  clear h h' hlt
  go_enter Tryz.func88, Tryz.ntmps88
  go_wp2_with fail
  refine HC.out.mono ?_
  rintro e w' ⟨rfl, rfl⟩
  go_wp2
  go_ret2
  exact ⟨rfl, rfl⟩
theorem rsub_f (A B : Option Addr) (c d : Nat) (xs ys : List Nat) (w : World) (h : Dg w A c xs) (h' : Dg w B d ys) (hl : xs.length ≤ 1048576) (hl' : ys.length ≤ 1048576) (hge : val ys ≤ val xs) :
    Calls Tryz.prog 88 #[.slice A xs.length c, .slice B ys.length d] w fun e w' => ∃ A' c', e = .returned (.tuple #[.slice A' (digs (val xs - val ys)).length c', .bool true]) ∧ Dg w' A' c' (digs (val xs - val ys)) ∧ Below w.heap.size w w' ∧ Fr w.heap.size A' := by
  obtain ⟨i0, hinf, hz0, hz1, hz2⟩ := info_parts elem_info
  have HC := qH (rcmp_any A B c d xs ys w h h' (by omega) (by omega))
  have H := qH h
  have H' := qH h'
  have O1 := qH h.2.1
  have O2 := qH h'.2.1
  have HG := qH hge
  have hc0 : 0 ≤ cmpi (val xs) (val ys) := by
    rcases Nat.lt_or_ge (val ys) (val xs) with h | h
    · rw [cmpi_gt h]; omega
    · rw [cmpi_eq (by omega)]; omega
  clear h h' hge
  generalize cmpi (val xs) (val ys) = q at *
  have hq : decide (q < 0) = false := by simp; omega
  go_enter Tryz.func88, Tryz.ntmps88
  go_wp2_with fail
  refine HC.out.mono ?_
  rintro e w' ⟨rfl, rfl⟩
  go_wp2
  go_loopw [6, 7, 8] (fun v cy i wr => ∃ (k z : Nat) (zs : List Nat), k ≤ xs.length ∧ i = .int .i64 k ∧ cy = .int .u64 z ∧ z ≤ 1 ∧ wr.ownsRow w.heap.size 67 1 v k (cells zs) ∧ Hid (zs.length = k) ∧ ok32 zs ∧
    Hid (val (xs.take k) + 4294967296 ^ k * z = val zs + val (ys.take k)) ∧ Below w.heap.size w wr) (fun _ _ i _ => xs.length - (intOf i).toNat)
  case atStart => exact ⟨0, 0, [], Nat.zero_le _, rfl, rfl, by omega, World.ownsRow_nil _ _ _ _, by simp [Hid], by intro x hx; simp at hx, by simp [Hid, val], Below.refl _ _⟩
  case round =>
    obtain ⟨k, z, zs, hk, rfl, rfl, hz, hown, HL, hok, HE, hbel⟩ := hrel
    by_cases hlt : k < xs.length
    · have rx := qH (rat_any A c xs k wr (H.out.keep hbel.size (fun b o h => hbel.cell (p := ⟨b, o, none⟩) h)) (by omega))
      have ry := qH (rat_any B d ys k wr (H'.out.keep hbel.size (fun b o h => hbel.cell (p := ⟨b, o, none⟩) h)) (by omega))
      have hX := getD_lt O1.out k
      have hY := getD_lt O2.out k
      generalize ex : xs[k]?.getD 0 = x at *
      generalize ey : ys[k]?.getD 0 = y at *
      have HX := qH ex
      have HY := qH ey
      clear ex ey
      go_wp2_with fail
      refine rx.out.mono ?_
      rintro e w' ⟨rfl, rfl⟩
      go_wp2_with fail
      refine ry.out.mono ?_
      rintro e w' ⟨rfl, rfl⟩
      go_wp2_with (at_builtin; refine wpList_append_own _ rfl _ _ 22 rfl w.heap.size 67 i0 (.int .u32 0) 1 4 Tryz.underlying22 hinf hz0 hz1 hz2 rfl (by decide) _ _ _ rfl (hown.alloc _) ⟨wr.heap.size, 0, none⟩ 1 1 [.int .u32 (((x : Int) + 4294967296 - y - z) % 4294967296)] rfl rfl (cell_new _ _ _) (fun u hu => by simp at hu; subst hu; rfl) (by unfold maxLen; omega) (by omega) (by have := hbel.size; simp; omega) ?_)
      intro v' w1 hown1 hgrow hnil
      obtain ⟨hp, hq1, hq2⟩ := sub_parts hX hY hz
      have e1 : ((x : Int) + 4294967296 - y - z) % 4294967296 = (sublo x y z : Nat) := by unfold sublo; omega
      have e2 : 1 - ((x : Int) + 4294967296 - y - z) / 4294967296 = (subhi x y z : Nat) := by unfold subhi; split <;> omega
      have hown2 := qH (own_snoc hown1 e1)
      have HE2 := qH e2
      have HP := qH hp
      have hb1 := qH ((hbel.alloc hbel.size _).grown hgrow (by simp; have := hbel.size; omega) (fun g hg => (hown.lt g hg).1))
      clear hown1 hgrow hnil hown e1 e2 hp
      go_wp2
      go_roundw
      case rel =>
        exact ⟨k + 1, subhi x y z, zs ++ [sublo x y z], hlt, by go_num, by rw [HE2.out], by omega, hown2.out, by have := HL.out; simp [Hid]; omega, ok_snoc hok hq1,
          rsub_step HL.out HE.out (by rw [HX.out, HY.out]; exact HP.out) rfl, hb1.out⟩
      case measure => simp [intOf]; omega
    · have hk' : k = xs.length := by omega
      subst hk'
      obtain ⟨A2, c2, hv, hd⟩ := dg_of_own hown hok
      have HV := qH (rsub_end O1.out O2.out hok HL.out HG.out HE.out)
      have HD := qH (rtrim_f A2 c2 zs wr hd (by have := HL.out; omega))
      rw [HV.out] at HD
      subst hv
      clear hown hd hlt
      go_wp2_with fail
      refine HD.out.mono ?_
      rintro e w2 ⟨A3, c3, rfl, h3, hb3, hf3⟩
      have HF3 := qH hf3
      have H3 := qH h3
      have HB3 := qH hb3
      clear h3 hb3 hf3
      go_wp2
      go_ret2
      exact ⟨A3, c3, rfl, H3.out, hbel.trans (HB3.out.mono hbel.size), fun b o e => Nat.le_trans hbel.size (HF3.out b o e)⟩
theorem rsub_yes (A B : Option Addr) (c d : Nat) (xs ys : List Nat) (w : World) (h : Dg w A c xs) (h' : Dg w B d ys) (hl : xs.length ≤ 1048576) (hl' : ys.length ≤ 1048576) (hge : val ys ≤ val xs) :
    Calls Tryz.prog 88 #[.slice A xs.length c, .slice B ys.length d] w fun e w' => ∃ A' c', e = .returned (.tuple #[.slice A' (digs (val xs - val ys)).length c', .bool true]) ∧ Dg w' A' c' (digs (val xs - val ys)) ∧ Below w.heap.size w w' :=
  (rsub_f A B c d xs ys w h h' hl hl' hge).mono fun _ _ ⟨A', c', h1, h2, h3, _⟩ => ⟨A', c', h1, h2, h3⟩
end Go.Proofs.YtdmfapgclppmhaaGreatDoor
end
