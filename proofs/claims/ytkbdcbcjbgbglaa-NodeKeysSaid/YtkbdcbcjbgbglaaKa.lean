/-
  NodeKeys: plain words: names put in, one left out, put in again.
-/
import Derived.Test.YtkbdcbcjbgbglaaNu
import Derived.Test.YtkbdcbcjbgbglaaNt
import Derived.Maps.OwnSet
import Derived.WalkKit
namespace Go.Proofs.Ytkbdcbcjbgbglaa
open Go.RowKit
set_option linter.unusedVariables false
set_option linter.unusedSimpArgs false
open Go.Maps
theorem cell_of_block {w w' : World} {b : Nat} (h : w'.heap[b]? = w.heap[b]?) (i : Nat) : w'.cell? ⟨b, i, none⟩ = w.cell? ⟨b, i, none⟩ := by
  unfold World.cell?
  rw [h]
theorem there_mem {ks : List (List UInt8)} (hs : Srt ks) {x : List UInt8} : thereB x ks = decide (x ∈ ks) := by
  by_cases h : x ∈ ks
  · rw [decide_eq_true h]
    obtain ⟨t, ht⟩ := List.getElem?_of_mem h
    rw [there_spec]
    rcases Nat.lt_trichotomy t (lbK x ks) with h1 | h1 | h1
    · exact absurd (lbK_below ht h1) (lt_ir x)
    · rw [← h1]; exact ht
    · cases hb : thereB x ks
      · have h2 := srt_above hs ht (by rw [hb]; simp; omega)
        exact absurd h2 (lt_ir x)
      · exact there_spec.1 hb
  · rw [decide_eq_false h]
    cases hb : thereB x ks
    · rfl
    · exact absurd (List.mem_of_getElem? (there_spec.1 hb)) h
theorem mem_putK_iff {ks : List (List UInt8)} (hs : Srt ks) {x y : List UInt8} : y ∈ putK x ks ↔ y = x ∨ y ∈ ks := by
  refine ⟨mem_putK, fun h => ?_⟩
  unfold putK putKi
  rcases h with rfl | h
  · simp
  · obtain ⟨t, ht⟩ := List.getElem?_of_mem h
    rcases Nat.lt_or_ge t (lbK x ks) with h1 | h1
    · refine List.mem_append_left _ (List.mem_append_left _ (List.mem_of_getElem? (i := t) ?_))
      rw [List.getElem?_take, if_pos h1]; exact ht
    · by_cases h2 : lbK x ks + (if thereB x ks then 1 else 0) ≤ t
      · refine List.mem_append_right _ (List.mem_of_getElem? (i := t - (lbK x ks + (if thereB x ks then 1 else 0))) ?_)
        rw [List.getElem?_drop]
        rw [show lbK x ks + (if thereB x ks then 1 else 0) + (t - (lbK x ks + (if thereB x ks then 1 else 0))) = t by omega]
        exact ht
      · have hb : thereB x ks = true := by
          cases hb : thereB x ks
          · rw [hb] at h2; simp at h2; omega
          · rfl
        rw [hb] at h2
        have h3 : t = lbK x ks := by simp at h2; omega
        have h4 := there_spec.1 hb
        rw [← h3, ht] at h4
        injection h4 with h4
        subst h4
        simp
/-- In a list laid anew at a place: who stands where. -/
theorem lay_at {α : Type} {xs : List α} {i j p : Nat} {x y : α} (hi : i ≤ xs.length) (h : (xs.take i ++ [x] ++ xs.drop j)[p]? = some y) : (p < i ∧ xs[p]? = some y) ∨ (p = i ∧ y = x) ∨ (i < p ∧ xs[j + (p - i - 1)]? = some y) := by
  have hl : (xs.take i).length = i := by rw [List.length_take]; omega
  rw [List.append_assoc] at h
  rcases Nat.lt_trichotomy p i with h1 | h1 | h1
  · rw [List.getElem?_append_left (by omega), List.getElem?_take, if_pos h1] at h
    exact .inl ⟨h1, h⟩
  · subst h1
    rw [List.getElem?_append_right (by omega), hl, Nat.sub_self] at h
    have : x = y := by simpa using h
    exact .inr (.inl ⟨rfl, this.symm⟩)
  · rw [List.getElem?_append_right (by omega), hl] at h
    rw [show p - i = (p - i - 1) + 1 by omega] at h
    have h2 : (xs.drop j)[p - i - 1]? = some y := by simpa using h
    rw [List.getElem?_drop] at h2
    exact .inr (.inr ⟨h1, h2⟩)
theorem at_lay {α : Type} {xs : List α} {i j p : Nat} {x y : α} (hi : i ≤ xs.length) (h : (p < i ∧ xs[p]? = some y) ∨ (p = i ∧ y = x) ∨ (i < p ∧ xs[j + (p - i - 1)]? = some y)) : (xs.take i ++ [x] ++ xs.drop j)[p]? = some y := by
  have hl : (xs.take i).length = i := by rw [List.length_take]; omega
  rw [List.append_assoc]
  rcases h with ⟨h1, h⟩ | ⟨h1, h⟩ | ⟨h1, h⟩
  · rw [List.getElem?_append_left (by omega), List.getElem?_take, if_pos h1]
    exact h
  · subst h1 h
    rw [List.getElem?_append_right (by omega), hl, Nat.sub_self]
    simp
  · rw [List.getElem?_append_right (by omega), hl]
    rw [show p - i = (p - i - 1) + 1 by omega]
    have h2 : (xs.drop j)[p - i - 1]? = some y := by rw [List.getElem?_drop]; exact h
    simpa using h2
/-- What holds between two rounds of the law's count. -/
structure Kst (l : List (List UInt8)) (key : List UInt8) (k : Nat) (D : DataW Unit) (want : Int) : Prop where
  tidy : Tidy D
  hasd : ∀ y : List UInt8, Maps.has D (.string y) = decide (y ∈ (growM l k).1)
  size : Maps.size D = (growM l k).1.length
  wn : key ∉ (growM l k).1 → want = -1
  wy : ∀ p : Nat, (growM l k).1[p]? = some key → (growM l k).2[p]? = some want
theorem Kst.zero (l : List (List UInt8)) (key : List UInt8) : Kst l key 0 (.map []) (-1) :=
  ⟨tidy_empty, fun y => by simp [growM, Maps.has], by simp [growM, Maps.size], fun _ => rfl, fun p h => by simp [growM] at h⟩
theorem Kst.no {l : List (List UInt8)} {key : List UInt8} {k : Nat} {D : DataW Unit} {want : Int} (h : Kst l key k D want) {x : List UInt8} (hx : l[k]? = some x) (hn : nameOk x = false) : Kst l key (k + 1) D want := by
  have e : growM l (k + 1) = growM l k := by rw [growM_succ hx]; unfold growS; rw [hn]; rfl
  exact ⟨h.tidy, by rw [e]; exact h.hasd, by rw [e]; exact h.size, by rw [e]; exact h.wn, by rw [e]; exact h.wy⟩
theorem Kst.yes {l : List (List UInt8)} {key : List UInt8} {k : Nat} {D : DataW Unit} {want w2 : Int} (h : Kst l key k D want) {x : List UInt8} (hx : l[k]? = some x) (hn : nameOk x = true) (hw : w2 = if x = key then (k : Int) + 2 else want) : Kst l key (k + 1) (D.put (.string x) (.lit (.bool true))) w2 := by
  have e : growM l (k + 1) = (putK x (growM l k).1, putD true x (growM l k).1 ((k : Int) + 2) (growM l k).2) := by rw [growM_succ hx]; unfold growS; rw [hn]; rfl
  have hs : Srt (growM l k).1 := (growM_facts l k).1
  have hle : (growM l k).2.length = (growM l k).1.length := (growM_facts l k).2.1
  obtain ⟨ht, hh, hz, hwn, hwy⟩ := h
  generalize (growM l k).1 = ks at *
  generalize (growM l k).2 = ds at *
  have hb := there_mem hs (x := x)
  have hlb := lbK_le x ks
  have hkl : WideAt.IsKeyLit (Lit.string x) := by simp [WideAt.IsKeyLit]
  refine ⟨ht.put hkl _, fun y => ?_, ?_, fun hk => ?_, fun p hp => ?_⟩
  · rw [e]
    by_cases hy : y = x
    · subst hy
      rw [has_put_same ht.isMap hkl, decide_eq_true ((mem_putK_iff hs).2 (.inl rfl))]
    · rw [has_put_other (by intro he; injection he with he; exact hy he), hh y]
      by_cases hm : y ∈ ks
      · rw [decide_eq_true hm, decide_eq_true ((mem_putK_iff hs).2 (.inr hm))]
      · rw [decide_eq_false hm, decide_eq_false (fun h => (mem_putK_iff hs).1 h |>.elim hy hm)]
  · rw [e, size_put ht, hh x, hz, putK_len, hb]
    by_cases hm : x ∈ ks <;> simp [hm]
  · rw [e] at hk
    have hk2 := fun h => hk ((mem_putK_iff hs).2 h)
    rw [hw, if_neg (fun h => hk2 (.inl h.symm))]
    exact hwn (fun h => hk2 (.inr h))
  · rw [e] at hp ⊢
    unfold putK putKi at hp
    show (putD true x ks ((k : Int) + 2) ds)[p]? = some w2
    unfold putD putDi bhd
    rw [if_pos rfl]
    refine at_lay (by omega) ?_
    rcases lay_at hlb hp with ⟨h1, h2⟩ | ⟨h1, h2⟩ | ⟨h1, h2⟩
    · refine .inl ⟨h1, ?_⟩
      rw [hw, if_neg (fun he => ?_)]
      · exact hwy p h2
      · have := lbK_below h2 h1; rw [he] at this; exact lt_ir _ this
    · exact .inr (.inl ⟨h1, by rw [hw, if_pos h2.symm]⟩)
    · have hne : ¬ x = key := fun he => by
        have := srt_above hs (key := x) h2 (by omega)
        rw [he] at this
        exact lt_ir _ this
      have hw2 : w2 = want := by rw [hw, if_neg hne]
      rw [hw2]
      exact .inr (.inr ⟨h1, hwy _ h2⟩)
/-- One left out. -/
def rmv {α : Type} (p : Nat) (xs : List α) : List α := xs.take p ++ [] ++ xs.drop (p + 1)
theorem rmv_len {α : Type} {p : Nat} {xs : List α} (h : p < xs.length) : (rmv p xs).length = xs.length - 1 := by
  unfold rmv
  simp only [List.length_append, List.length_take, List.length_drop, List.length_nil]
  omega
theorem rmv_at {α : Type} {p t : Nat} {xs : List α} (h : p < xs.length) : (rmv p xs)[t]? = if t < p then xs[t]? else xs[t + 1]? := by
  have hl : (xs.take p).length = p := by rw [List.length_take]; omega
  unfold rmv
  rw [List.append_nil]
  split
  · rename_i h1
    rw [List.getElem?_append_left (by omega), List.getElem?_take, if_pos h1]
  · rename_i h1
    rw [List.getElem?_append_right (by omega), hl, List.getElem?_drop]
    congr 1
    omega
theorem rmv_srt {p : Nat} {ks : List (List UInt8)} (hs : Srt ks) (h : p < ks.length) : Srt (rmv p ks) := by
  intro i j x y hij hi hj
  rw [rmv_at h] at hi hj
  split at hi <;> split at hj
  · exact hs i j x y hij hi hj
  · exact hs i (j + 1) x y (by omega) hi hj
  · omega
  · exact hs (i + 1) (j + 1) x y (by omega) hi hj
theorem rmv_lb {p : Nat} {ks : List (List UInt8)} {x : List UInt8} (hs : Srt ks) (hx : ks[p]? = some x) : lbK x (rmv p ks) = p ∧ thereB x (rmv p ks) = false := by
  have h := (List.getElem?_eq_some_iff.1 hx).1
  have h1 : lbK x (rmv p ks) = p := lbK_eq (by rw [rmv_len h]; omega) (fun t z hz => by
    rw [rmv_at h] at hz
    refine ⟨fun ht => ?_, fun ht hzx => ?_⟩
    · rw [if_pos ht] at hz
      exact hs t p z x ht hz hx
    · rw [if_neg (by omega)] at hz
      exact lt_ir _ (lt_tr (hs p (t + 1) x z (by omega) hx hz) hzx))
  refine ⟨h1, ?_⟩
  cases hb : thereB x (rmv p ks)
  · rfl
  · have h2 := there_spec.1 hb
    rw [h1, rmv_at h, if_neg (by omega)] at h2
    exact absurd (hs p (p + 1) x x (by omega) hx h2) (lt_ir x)
theorem rmv_back {α : Type} {p : Nat} {xs : List α} {x : α} (hx : xs[p]? = some x) : (rmv p xs).take p ++ [x] ++ (rmv p xs).drop p = xs := by
  have h := (List.getElem?_eq_some_iff.1 hx).1
  have hl : (xs.take p).length = p := by rw [List.length_take]; omega
  unfold rmv
  rw [List.append_nil, List.take_append_of_le_length (by omega), List.drop_append_of_le_length (by omega), List.take_take, Nat.min_self, List.drop_eq_nil_of_le (by omega), List.nil_append, List.append_assoc, List.singleton_append, ← drop_some hx, List.take_append_drop]
theorem rmv_putK {p : Nat} {ks : List (List UInt8)} {x : List UInt8} (hs : Srt ks) (hx : ks[p]? = some x) : putKi (rmv p ks) x (lbK x (rmv p ks)) (thereB x (rmv p ks)) = ks := by
  obtain ⟨h1, h2⟩ := rmv_lb hs hx
  rw [h1, h2]
  unfold putKi
  simpa using rmv_back hx
theorem rmv_putD {p : Nat} {ks : List (List UInt8)} {ds : List Int} {x : List UInt8} {q : Int} (hs : Srt ks) (hx : ks[p]? = some x) (hq : ds[p]? = some q) : putDi (rmv p ds) q true (lbK x (rmv p ks)) (thereB x (rmv p ks)) = ds := by
  obtain ⟨h1, h2⟩ := rmv_lb hs hx
  rw [h1, h2]
  unfold putDi bhd
  simpa using rmv_back hq
end Go.Proofs.Ytkbdcbcjbgbglaa
