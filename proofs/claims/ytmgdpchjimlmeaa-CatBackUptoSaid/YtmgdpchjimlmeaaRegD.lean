/-
  A region that draws its order: operands in whatever order (as wp_operands); behind them a few operations whose orders are walked one by one ('x.f = append(x.f, ..)', x captured: the address may be taken ahead of the append or behind it).
-/
import Derived.Test.YtmgdpchjimlmeaaRegC
namespace Go.Proofs.Ytmgdpchjimlmeaa
open Go.RowKit
section
variable {P : Program} {ops : Array Oper} {Q : Exit → Act → World → Prop} {md : Region.Mode}
theorem wpAny_go {l : Array Bool} {a : Act} {w : World} {fuel : Nat} {is : List Nat} (hr : Region.ready md ops l = is) (hn : is.isEmpty = false) (h : ∀ i, i ∈ is → wpOp P ops Q i (wpAny P md ops Q fuel (l.setIfInBounds i true)) a w) : wpAny P md ops Q (fuel + 1) l a w :=
  ⟨fun e => (by rw [hr] at e; subst e; exact absurd hn (by simp)), fun i hi => h i (by rw [hr] at hi; exact hi)⟩
theorem wpAny_go1 {l : Array Bool} {a : Act} {w : World} {fuel i : Nat} (hr : Region.ready md ops l = [i]) (h : wpOp P ops Q i (wpAny P md ops Q fuel (l.setIfInBounds i true)) a w) : wpAny P md ops Q (fuel + 1) l a w :=
  wpAny_go hr rfl fun j hj => by rw [List.mem_singleton] at hj; subst hj; exact h
theorem wpAny_go2 {l : Array Bool} {a : Act} {w : World} {fuel i j : Nat} (hr : Region.ready md ops l = [i, j]) (h : wpOp P ops Q i (wpAny P md ops Q fuel (l.setIfInBounds i true)) a w) (h2 : wpOp P ops Q j (wpAny P md ops Q fuel (l.setIfInBounds j true)) a w) : wpAny P md ops Q (fuel + 1) l a w :=
  wpAny_go hr rfl fun k hk => by
    simp only [List.mem_cons, List.not_mem_nil, or_false] at hk
    rcases hk with rfl | rfl
    · exact h
    · exact h2
theorem wpAny_end {l : Array Bool} {a : Act} {w : World} {fuel : Nat} (hr : Region.ready md ops l = []) (h : Q .normal a w) : wpAny P md ops Q fuel l a w := by
  cases fuel with
  | zero => exact ⟨hr, h⟩
  | succ f => exact ⟨fun _ => h, fun i hi => by rw [hr] at hi; cases hi⟩
theorem wp_operands_then {id : Nat} {a0 : Act} {W : World} (hm : P.follows .mixedOrders = true) (n0 : Nat) (D : List Tmp) (R : Nat → Value → World → Prop)
    (hn : n0 < ops.size) (hD : D.length = n0) (hb : backB .any ops = true) (ht : ((List.range ops.size).all fun i => decide (i < n0) || (List.range n0).all fun k => waitsT .any ops ops.size i k) = true) (hnd : D.Nodup) (hin : (D.all fun t => decide (t < a0.tmps.size)) = true)
    (st : ∀ i u w w', i < n0 → R i u w → Below w.heap.size w w' → R i u w')
    (step : ∀ i a w K, i < n0 → Fr6 D a0 a → Below W.heap.size W w → (∀ k, waitsB .any ops i k = true → R k (a.tmps.getD (D.getD k 0) undef) w) →
      (∀ u w', R i u w' → Below w.heap.size w w' → True → K (a.put (some (D.getD i 0)) u) w') → wpOp P ops Q i K a w)
    (fin : ∀ a w, Fr6 D a0 a → Below W.heap.size W w → (∀ i, i < n0 → R i (a.tmps.getD (D.getD i 0) undef) w) → True →
      ∀ f, wpAny P .any ops Q (f + (ops.size - n0)) ((List.range ops.size).map (fun i => decide (i < n0))).toArray a w) : (Code.region id ops true).wp P Q a0 W := by
  have hmem : ∀ i, i < n0 → D.getD i 0 ∈ D := fun i hi => by rw [List.getD_eq_getElem?_getD, List.getElem?_eq_getElem (by omega)]; exact List.getElem_mem _
  have hlt : ∀ i, i < n0 → D.getD i 0 < a0.tmps.size := fun i hi => by
    rw [List.all_eq_true] at hin
    simpa using hin _ (hmem i hi)
  have hne : ∀ i j, i < n0 → j < n0 → i ≠ j → D.getD i 0 ≠ D.getD j 0 := fun i j hi hj h e => by
    rw [List.getD_eq_getElem?_getD, List.getD_eq_getElem?_getD, List.getElem?_eq_getElem (by omega), List.getElem?_eq_getElem (by omega)] at e
    exact h ((List.getElem_inj hnd).1 (by simpa using e))
  have hwk : ∀ l : Array Bool, l.size = ops.size → ∀ i k, i ∈ Region.ready .any ops l → waitsB .any ops i k = true → i < n0 → k < n0 := by
    intro l hl i k hi hk hi0
    have hlt : i < ops.size := by omega
    simp only [backB, List.all_eq_true, List.mem_range] at hb
    have h1 := hb i hlt
    simp only [Array.getElem?_eq_getElem hlt, Option.map_some, Option.getD_some, Array.all_eq_true_iff_forall_mem] at h1
    simp only [waitsB, Array.getElem?_eq_getElem hlt, Option.map_some, Option.getD_some, Array.any_eq_true'] at hk
    obtain ⟨e, he, h2⟩ := hk
    simp only [Bool.and_eq_true, beq_iff_eq] at h2
    have h3 := h1 e he
    simp only [h2.1, Bool.not_true, Bool.false_or, decide_eq_true_eq] at h3
    omega
  have zz : ∀ j, (Array.replicate ops.size false).getD j false = false := by intro j; simp [Array.getElem?_replicate]; split <;> rfl
  refine wp_region_any hm (wpAny_phaseP (Pb := fun i => decide (i < n0)) (Ob := fun i => decide (i < n0)) (fun l a w => Fr6 D a0 a ∧ Below W.heap.size W w ∧ (∀ i, i < n0 → l.getD i false = true → R i (a.tmps.getD (D.getD i 0) undef) w)) hb
    ⟨n0, hn, by simp⟩ ?_ ?_ ?_ _ _ _ _ ?_ (by simp) ?_ ?_ ?_)
  · intro i hi hc k hk hkp
    simp only [decide_eq_false_iff_not, decide_eq_true_eq] at hc hkp
    simp only [List.all_eq_true, List.mem_range, Bool.or_eq_true, decide_eq_true_eq] at ht
    rcases ht i hi with h | h
    · exact absurd h hc
    · exact h k hkp
  · rintro l a w i ⟨hF, hbw, hR⟩ hl hi hip hir
    have hi0 : i < n0 := by simpa using hip
    have ps : a.tmps.size = a0.tmps.size := hF.2.1
    refine step i a w _ hi0 hF hbw (fun k hk => hR k (hwk l hl i k hir hk hi0) (waits_spec hk hir)) (fun u w' hu hbb _ => ⟨hF.put (hmem i hi0) _, hbw.trans (hbb.mono hbw.size), fun j hj hjl => ?_⟩)
    by_cases hij : i = j
    · subst hij; rw [put_same _ _ _ (by rw [ps]; exact hlt i hi0)]; exact hu
    · rw [getD_set_ne false hij] at hjl
      rw [put_other _ _ _ _ (hne i j hi0 hj hij)]
      exact st j _ _ _ hj (hR j hj hjl) hbb
  · rintro l a w ⟨hF, hbw, hR⟩ hl hall hno fuel hfu
    have hf := fin a w hF hbw (fun i hi => hR i hi (hall i (by omega) (by simpa using hi))) trivial
    have hlL : l = ((List.range ops.size).map (fun i => decide (i < n0))).toArray := by
      apply Array.ext
      · simp [hl]
      · intro i h1 h2
        have : l.getD i false = decide (i < n0) := by
          by_cases h : i < n0
          · rw [hall i (by omega) (by simpa using h)]; simp [h]
          · rw [hno i (by omega) (by simpa using h)]; simp [h]
        simp only [Array.getD_eq_getD_getElem?, Array.getElem?_eq_getElem h1, Option.getD_some] at this
        rw [this]; simp
    have hst : ops.size - n0 ≤ still l := by
      rw [hlL]
      unfold still
      have e : List.range ops.size = List.range n0 ++ (List.range (ops.size - n0)).map (fun i => n0 + i) := by rw [← List.range_add]; congr 1; omega
      simp only [e, List.map_append, List.map_map, List.count_append]
      refine Nat.le_trans ?_ (Nat.le_add_left _ _)
      have : (List.map ((fun i => decide (i < n0)) ∘ fun i => n0 + i) (List.range (ops.size - n0))) = List.replicate (ops.size - n0) false := by
        apply List.ext_getElem
        · simp
        · intro i h1 h2; simp
      rw [this, List.count_replicate_self]
      exact Nat.le_refl _
    obtain ⟨f, rfl⟩ : ∃ f, fuel = f + (ops.size - n0) := ⟨fuel - (ops.size - n0), by omega⟩
    rw [hlL]
    exact hf f
  · unfold still; exact Nat.le_trans (List.count_le_length) (by simp)
  · exact fun j hj => absurd hj (by rw [zz]; simp)
  · exact fun k _ _ => zz k
  · exact ⟨⟨rfl, rfl, fun _ _ => rfl⟩, ⟨rfl, rfl, rfl, Nat.le_refl _, fun _ _ => rfl⟩, fun i _ hi => absurd hi (by rw [zz]; simp)⟩
/-- Operands in whatever order; one (x) that may also come among what stands behind them; the rest is walked order by order. -/
theorem wp_operands_x {id : Nat} {a0 : Act} {W : World} (hm : P.follows .mixedOrders = true) (x y n1 n2 : Nat) (S : List Nat) (D : List Tmp) (R : Nat → Value → World → Prop)
    (hb : backB .any ops = true) (hx : x < ops.size ∧ y < ops.size) (hyO : (x :: S).contains y = false) (hxS : S.contains x = false)
    (hS : (S.all fun i => decide (i < ops.size)) = true)
    (ht : ((List.range ops.size).all fun i => (x :: S).contains i || S.all fun k => waitsT .any ops ops.size i k) = true) (hw : ((x :: S).all fun i => (List.range ops.size).all fun k => !waitsB .any ops i k || S.contains k) = true)
    (hnd : ((x :: S).map (D.getD · 0)).Nodup) (hin : ((x :: S).all fun i => decide (D.getD i 0 < a0.tmps.size)) = true)
    (hn1 : still ((List.range ops.size).map (S.contains ·)).toArray = n1) (hn2 : still (((List.range ops.size).map (S.contains ·)).toArray.setIfInBounds x true) = n2)
    (st : ∀ i u w w', i ∈ x :: S → R i u w → Below w.heap.size w w' → R i u w')
    (step : ∀ i a w K, i ∈ x :: S → Fr6 ((x :: S).map (D.getD · 0)) a0 a → Below W.heap.size W w → (∀ k, waitsB .any ops i k = true → R k (a.tmps.getD (D.getD k 0) undef) w) →
      (∀ u w', R i u w' → Below w.heap.size w w' → K (a.put (some (D.getD i 0)) u) w') → wpOp P ops Q i K a w)
    (fin : ∀ a w, Fr6 ((x :: S).map (D.getD · 0)) a0 a → Below W.heap.size W w → (∀ i, i ∈ S → R i (a.tmps.getD (D.getD i 0) undef) w) →
      (∀ f, wpAny P .any ops Q (f + n1) ((List.range ops.size).map (S.contains ·)).toArray a w) ∧ (R x (a.tmps.getD (D.getD x 0) undef) w → ∀ f, wpAny P .any ops Q (f + n2) (((List.range ops.size).map (S.contains ·)).toArray.setIfInBounds x true) a w)) :
    (Code.region id ops true).wp P Q a0 W := by
  have memS : ∀ i, i ∈ S → i < ops.size := fun i hi => by
    rw [List.all_eq_true] at hS
    simpa using hS i hi
  have memO : ∀ i, i ∈ x :: S → i < ops.size := fun i hi => by
    rcases List.mem_cons.1 hi with rfl | h
    · exact hx.1
    · exact memS i h
  have hlt : ∀ i, i ∈ x :: S → D.getD i 0 < a0.tmps.size := fun i hi => by
    rw [List.all_eq_true] at hin
    simpa using hin i hi
  have hne : ∀ i j, i ∈ x :: S → j ∈ x :: S → i ≠ j → D.getD i 0 ≠ D.getD j 0 := fun i j hi hj h e => by
    obtain ⟨p, hp, hpe⟩ := List.getElem_of_mem hi
    obtain ⟨q, hq, hqe⟩ := List.getElem_of_mem hj
    have h1 : ((x :: S).map (D.getD · 0))[p]'(by simpa using hp) = ((x :: S).map (D.getD · 0))[q]'(by simpa using hq) := by
      rw [List.getElem_map, List.getElem_map, hpe, hqe]; exact e
    have h2 := (List.getElem_inj hnd).1 h1
    subst h2
    exact h (hpe.symm.trans hqe)
  have hmem : ∀ i, i ∈ x :: S → D.getD i 0 ∈ (x :: S).map (D.getD · 0) := fun i hi => List.mem_map.2 ⟨i, hi, rfl⟩
  have xS : S.contains x = false := hxS
  have zz : ∀ j, (Array.replicate ops.size false).getD j false = false := by intro j; simp [Array.getElem?_replicate]; split <;> rfl
  refine wp_region_any hm (wpAny_phaseP (Pb := fun i => S.contains i) (Ob := fun i => (x :: S).contains i) (fun l a w => Fr6 ((x :: S).map (D.getD · 0)) a0 a ∧ Below W.heap.size W w ∧ (∀ i, i ∈ x :: S → l.getD i false = true → R i (a.tmps.getD (D.getD i 0) undef) w)) hb
    ⟨y, hx.2, hyO⟩ ?_ ?_ ?_ _ _ _ _ ?_ (by simp) ?_ ?_ ?_)
  · intro i hi hc k hk hkp
    simp only [List.all_eq_true, List.mem_range, Bool.or_eq_true] at ht
    rcases ht i hi with h | h
    · have hc' : (x :: S).contains i = false := hc
      rw [hc'] at h; cases h
    · exact h k (List.contains_iff_mem.1 hkp)
  · rintro l a w i ⟨hF, hbw, hR⟩ hl hi hip hir
    have hiS := List.contains_iff_mem.1 hip
    have ps : a.tmps.size = a0.tmps.size := hF.2.1
    refine step i a w _ hiS hF hbw (fun k hk => hR k ?_ (waits_spec hk hir)) (fun u w' hu hbb => ⟨hF.put (hmem i hiS) _, hbw.trans (hbb.mono hbw.size), fun j hj hjl => ?_⟩)
    · rw [List.all_eq_true] at hw
      have h1 := hw i hiS
      rw [List.all_eq_true] at h1
      have hks : k < ops.size := by
        rcases Nat.lt_or_ge k ops.size with h | h
        · exact h
        · exfalso
          have := waits_spec hk hir
          have h2 : l.size ≤ k := by omega
          simp [Array.getElem?_eq_none h2] at this
      have h2 := h1 k (List.mem_range.2 hks)
      rw [hk] at h2
      exact List.mem_cons_of_mem _ (List.contains_iff_mem.1 (by simpa using h2))
    · by_cases hij : i = j
      · subst hij; rw [put_same _ _ _ (by rw [ps]; exact hlt i hiS)]; exact hu
      · rw [getD_set_ne false hij] at hjl
        rw [put_other _ _ _ _ (hne i j hiS hj hij)]
        exact st j _ _ _ hj (hR j hj hjl) hbb
  · rintro l a w ⟨hF, hbw, hR⟩ hl hall hno fuel hfu
    have hf := fin a w hF hbw (fun i hi => hR i (List.mem_cons_of_mem _ hi) (hall i (memS i hi) (List.contains_iff_mem.2 hi)))
    have hval : ∀ i, i < ops.size → i ≠ x → l.getD i false = S.contains i := by
      intro i hi hix
      cases hc : S.contains i
      · refine hno i hi ?_
        cases hc2 : (x :: S).contains i
        · rfl
        · rcases List.mem_cons.1 (List.contains_iff_mem.1 hc2) with h | h
          · exact absurd h hix
          · rw [List.contains_iff_mem.2 h] at hc; cases hc
      · exact hall i hi hc
    cases hlx : l.getD x false
    · have hlL : l = ((List.range ops.size).map (S.contains ·)).toArray := by
        apply Array.ext
        · simp [hl]
        · intro i h1 h2
          have : l.getD i false = S.contains i := by
            by_cases hix : i = x
            · rw [hix, hlx, xS]
            · exact hval i (by omega) hix
          simp only [Array.getD_eq_getD_getElem?, Array.getElem?_eq_getElem h1, Option.getD_some] at this
          rw [this]; simp
      rw [hlL] at hfu
      rw [hn1] at hfu
      obtain ⟨f, rfl⟩ : ∃ f, fuel = f + n1 := ⟨fuel - n1, by omega⟩
      rw [hlL]
      exact hf.1 f
    · have hlL : l = (((List.range ops.size).map (S.contains ·)).toArray.setIfInBounds x true) := by
        apply Array.ext
        · simp [hl]
        · intro i h1 h2
          by_cases hix : i = x
          · subst hix
            simp only [Array.getD_eq_getD_getElem?, Array.getElem?_eq_getElem h1, Option.getD_some] at hlx
            rw [hlx]; simp
          · have := hval i (by omega) hix
            simp only [Array.getD_eq_getD_getElem?, Array.getElem?_eq_getElem h1, Option.getD_some] at this
            rw [this, Array.getElem_setIfInBounds]
            rw [if_neg (fun e => hix e.symm)]; simp
            exact (by simp; omega)
      rw [hlL] at hfu
      rw [hn2] at hfu
      obtain ⟨f, rfl⟩ : ∃ f, fuel = f + n2 := ⟨fuel - n2, by omega⟩
      rw [hlL]
      exact hf.2 (hR x (List.mem_cons_self ..) hlx) f
  · unfold still; exact Nat.le_trans (List.count_le_length) (by simp)
  · exact fun j hj => absurd hj (by rw [zz]; simp)
  · exact fun k _ _ => zz k
  · exact ⟨⟨rfl, rfl, fun _ _ => rfl⟩, ⟨rfl, rfl, rfl, Nat.le_refl _, fun _ _ => rfl⟩, fun i _ hi => absurd hi (by rw [zz]; simp)⟩
end
end Go.Proofs.Ytmgdpchjimlmeaa
