/-
  A region that draws its order, whose last store may come ahead of what stands behind it ('x, ok := f(g(a), b)': the store into x's new box, and ok's part of the answer).
-/
import Derived.Test.YtmgdpchjimlmeaaRegB
namespace Go.Proofs.Ytmgdpchjimlmeaa
open Go.RowKit
section
variable {P : Program} {ops : Array Oper} {Q : Exit → Act → World → Prop} {md : Region.Mode}
theorem wpAny_phaseP {Pb Ob : Nat → Bool} (I : Array Bool → Act → World → Prop) (hb : backB md ops = true) (hne : ∃ j, j < ops.size ∧ Ob j = false)
    (hP : ∀ i, i < ops.size → Ob i = false → ∀ k, k < ops.size → Pb k = true → waitsT md ops ops.size i k = true)
    (step : ∀ l a w i, I l a w → l.size = ops.size → i < ops.size → Ob i = true → i ∈ Region.ready md ops l → wpOp P ops Q i (fun a' w' => I (l.setIfInBounds i true) a' w') a w)
    (fin : ∀ l a w, I l a w → l.size = ops.size → (∀ i, i < ops.size → Pb i = true → l.getD i false = true) → (∀ i, i < ops.size → Ob i = false → l.getD i false = false) → ∀ fuel, still l ≤ fuel → wpAny P md ops Q fuel l a w) :
    ∀ (fuel : Nat) (l : Array Bool) (a : Act) (w : World), still l ≤ fuel → l.size = ops.size → Down md ops l → (∀ k, k < ops.size → Ob k = false → l.getD k false = false) → I l a w → wpAny P md ops Q fuel l a w := by
  intro fuel
  induction fuel with
  | zero =>
    intro l a w hf hl hd hno hI
    exfalso
    obtain ⟨j, hj, hjp⟩ := hne
    have h1 := hno j hj hjp
    have h2 : l.getD j true = false := by
      have : j < l.size := by omega
      simp [this] at h1 ⊢; exact h1
    have := still_set h2
    omega
  | succ fuel ih =>
    intro l a w hf hl hd hno hI
    by_cases hall : ∀ k, k < ops.size → Pb k = true → l.getD k false = true
    · exact fin l a w hI hl hall hno _ hf
    · refine ⟨fun hr => ?_, fun i hi => ?_⟩
      · exfalso
        obtain ⟨j, hj, hjp⟩ := hne
        have := all_of_back hb hl hr j hj
        rw [hno j hj hjp] at this; cases this
      · have hiu := (mem_ready.1 hi).1
        have hin : i < ops.size := by
          rcases Nat.lt_or_ge i l.size with h' | h'
          · omega
          · simp [Array.getElem?_eq_none h'] at hiu
        have hip : Ob i = true := by
          cases hp : Ob i
          · exfalso; apply hall
            intro k hk hkp
            exact hd.ready hi (hP i hin hp k hk hkp)
          · rfl
        have hst := still_set hiu
        refine wpOp_mono (fun a' w' h' => ih _ a' w' (by omega) (by simpa using hl) (hd.set hi) (fun k hk hkp => ?_) h') (step l a w i hI hl hin hip hi)
        have : i ≠ k := by rintro rfl; rw [hip] at hkp; cases hkp
        rw [getD_set_ne false this]; exact hno k hk hkp
/-- Two in either order, and one behind them. -/
theorem wpAny_late {L0 : Array Bool} {x y z : Nat} {a : Act} {w : World} {fuel : Nat} (hf : 3 ≤ fuel) (r1 : Region.ready md ops L0 = [x, y]) (r2 : Region.ready md ops (L0.setIfInBounds x true) = [y]) (r3 : Region.ready md ops (L0.setIfInBounds y true) = [x])
    (r4 : Region.ready md ops ((L0.setIfInBounds x true).setIfInBounds y true) = [z]) (r5 : Region.ready md ops ((L0.setIfInBounds y true).setIfInBounds x true) = [z])
    (r6 : Region.ready md ops (((L0.setIfInBounds x true).setIfInBounds y true).setIfInBounds z true) = []) (r7 : Region.ready md ops (((L0.setIfInBounds y true).setIfInBounds x true).setIfInBounds z true) = [])
    (h1 : wpOps P ops Q [x, y, z] a w) (h2 : wpOps P ops Q [y, x, z] a w) : wpAny P md ops Q fuel L0 a w := by
  obtain ⟨f, rfl⟩ : ∃ f, fuel = f + 1 + 1 + 1 := ⟨fuel - 3, by omega⟩
  have hend : ∀ l a w, Region.ready md ops l = [] → Q .normal a w → wpAny P md ops Q f l a w := by
    intro l a w hr hq
    cases f with
    | zero => exact ⟨hr, hq⟩
    | succ f => exact ⟨fun _ => hq, fun i hi => by rw [hr] at hi; cases hi⟩
  simp only [wpOps_cons] at h1 h2
  refine ⟨fun hr => (by rw [r1] at hr; cases hr), fun i hi => ?_⟩
  rw [r1] at hi
  simp only [List.mem_cons, List.not_mem_nil, or_false] at hi
  rcases hi with rfl | rfl
  · refine wpOp_mono (fun a w h => ⟨fun hr => (by rw [r2] at hr; cases hr), fun j hj => ?_⟩) h1
    rw [r2] at hj; simp only [List.mem_cons, List.not_mem_nil, or_false] at hj; subst hj
    refine wpOp_mono (fun a w h => ⟨fun hr => (by rw [r4] at hr; cases hr), fun j hj => ?_⟩) h
    rw [r4] at hj; simp only [List.mem_cons, List.not_mem_nil, or_false] at hj; subst hj
    exact wpOp_mono (fun a w h => hend _ _ _ r6 h) h
  · refine wpOp_mono (fun a w h => ⟨fun hr => (by rw [r3] at hr; cases hr), fun j hj => ?_⟩) h2
    rw [r3] at hj; simp only [List.mem_cons, List.not_mem_nil, or_false] at hj; subst hj
    refine wpOp_mono (fun a w h => ⟨fun hr => (by rw [r5] at hr; cases hr), fun j hj => ?_⟩) h
    rw [r5] at hj; simp only [List.mem_cons, List.not_mem_nil, or_false] at hj; subst hj
    exact wpOp_mono (fun a w h => hend _ _ _ r7 h) h
theorem wpAny_two {L0 : Array Bool} {y z : Nat} {a : Act} {w : World} {fuel : Nat} (hf : 2 ≤ fuel) (r1 : Region.ready md ops L0 = [y]) (r2 : Region.ready md ops (L0.setIfInBounds y true) = [z]) (r3 : Region.ready md ops ((L0.setIfInBounds y true).setIfInBounds z true) = [])
    (h1 : wpOps P ops Q [y, z] a w) : wpAny P md ops Q fuel L0 a w := by
  obtain ⟨f, rfl⟩ : ∃ f, fuel = f + 1 + 1 := ⟨fuel - 2, by omega⟩
  have hend : ∀ l a w, Region.ready md ops l = [] → Q .normal a w → wpAny P md ops Q f l a w := by
    intro l a w hr hq
    cases f with
    | zero => exact ⟨hr, hq⟩
    | succ f => exact ⟨fun _ => hq, fun i hi => by rw [hr] at hi; cases hi⟩
  simp only [wpOps_cons] at h1
  refine ⟨fun hr => (by rw [r1] at hr; cases hr), fun i hi => ?_⟩
  rw [r1] at hi; simp only [List.mem_cons, List.not_mem_nil, or_false] at hi; subst hi
  refine wpOp_mono (fun a w h => ⟨fun hr => (by rw [r2] at hr; cases hr), fun j hj => ?_⟩) h1
  rw [r2] at hj; simp only [List.mem_cons, List.not_mem_nil, or_false] at hj; subst hj
  exact wpOp_mono (fun a w h => hend _ _ _ r3 h) h
/-- Loads, calls and new boxes in whatever order; behind them a store, and the last one; and one (x) that may come ahead of the store or behind it. D: the operands' slots; S: their numbers, but x. -/
theorem wp_operands_late {id : Nat} {a0 : Act} {W : World} (hm : P.follows .mixedOrders = true) (x y z : Nat) (S : List Nat) (D : List Tmp) (R : Nat → Value → World → Prop)
    (hn : ((List.range ops.size).all fun i => S.contains i || i == x || i == y || i == z) = true) (hb : backB .any ops = true) (hx : x < ops.size ∧ y < ops.size ∧ z < ops.size ∧ x ≠ y ∧ x ≠ z ∧ y ≠ z)
    (hS : (S.all fun i => decide (i < ops.size) && decide (i ≠ x) && decide (i ≠ y) && decide (i ≠ z)) = true)
    (ht : ([y, z].all fun i => S.all fun k => waitsT .any ops ops.size i k) = true) (hw : ((x :: S).all fun i => (List.range ops.size).all fun k => !waitsB .any ops i k || S.contains k) = true)
    (hnd : ((x :: S).map (D.getD · 0)).Nodup) (hin : ((x :: S).all fun i => decide (D.getD i 0 < a0.tmps.size)) = true)
    (r1 : Region.ready .any ops ((List.range ops.size).map (S.contains ·)).toArray = [x, y]) (r2 : Region.ready .any ops (((List.range ops.size).map (S.contains ·)).toArray.setIfInBounds x true) = [y]) (r3 : Region.ready .any ops (((List.range ops.size).map (S.contains ·)).toArray.setIfInBounds y true) = [x])
    (r4 : Region.ready .any ops ((((List.range ops.size).map (S.contains ·)).toArray.setIfInBounds x true).setIfInBounds y true) = [z]) (r5 : Region.ready .any ops ((((List.range ops.size).map (S.contains ·)).toArray.setIfInBounds y true).setIfInBounds x true) = [z])
    (r6 : Region.ready .any ops (((((List.range ops.size).map (S.contains ·)).toArray.setIfInBounds x true).setIfInBounds y true).setIfInBounds z true) = []) (r7 : Region.ready .any ops (((((List.range ops.size).map (S.contains ·)).toArray.setIfInBounds y true).setIfInBounds x true).setIfInBounds z true) = [])
    (st : ∀ i u w w', i ∈ x :: S → R i u w → Below w.heap.size w w' → R i u w')
    (step : ∀ i a w K, i ∈ x :: S → Fr6 ((x :: S).map (D.getD · 0)) a0 a → Below W.heap.size W w → (∀ k, waitsB .any ops i k = true → R k (a.tmps.getD (D.getD k 0) undef) w) →
      (∀ u w', R i u w' → Below w.heap.size w w' → K (a.put (some (D.getD i 0)) u) w') → wpOp P ops Q i K a w)
    (fin : ∀ a w, Fr6 ((x :: S).map (D.getD · 0)) a0 a → Below W.heap.size W w → (∀ i, i ∈ S → R i (a.tmps.getD (D.getD i 0) undef) w) → (wpOps P ops Q [x, y, z] a w ∧ wpOps P ops Q [y, x, z] a w) ∧ (R x (a.tmps.getD (D.getD x 0) undef) w → wpOps P ops Q [y, z] a w)) :
    (Code.region id ops true).wp P Q a0 W := by
  have memS : ∀ i, i ∈ S → i < ops.size := fun i hi => by
    rw [List.all_eq_true] at hS
    have := hS i hi
    simp only [Bool.and_eq_true, decide_eq_true_eq] at this
    exact this.1.1.1
  have notS : ∀ i, i ∈ S → i ≠ x ∧ i ≠ y ∧ i ≠ z := fun i hi => by
    rw [List.all_eq_true] at hS
    have := hS i hi
    simp only [Bool.and_eq_true, decide_eq_true_eq] at this
    exact ⟨this.1.1.2, this.1.2, this.2⟩
  have memO : ∀ i, i ∈ x :: S → i < ops.size := fun i hi => by
    rcases List.mem_cons.1 hi with rfl | h
    · exact hx.1
    · exact memS i h
  have hlt : ∀ i, i ∈ x :: S → D.getD i 0 < a0.tmps.size := fun i hi => by
    rw [List.all_eq_true] at hin
    simpa using hin i hi
  have hne : ∀ i j, i ∈ x :: S → j ∈ x :: S → i ≠ j → D.getD i 0 ≠ D.getD j 0 := fun i j hi hj h e => by
    obtain ⟨p, hp, hpe⟩ := List.getElem_of_mem hi
    obtain ⟨q, hq, hqe⟩ := List.getElem_of_mem hj
    have h1 : ((x :: S).map (D.getD · 0))[p]'(by simpa using hp) = ((x :: S).map (D.getD · 0))[q]'(by simpa using hq) := by
      rw [List.getElem_map, List.getElem_map, hpe, hqe]; exact e
    have h2 := (List.getElem_inj hnd).1 h1
    subst h2
    exact h (hpe.symm.trans hqe)
  have hmem : ∀ i, i ∈ x :: S → D.getD i 0 ∈ (x :: S).map (D.getD · 0) := fun i hi => List.mem_map.2 ⟨i, hi, rfl⟩
  have hrest : ∀ i, i < ops.size → (x :: S).contains i = false → i = y ∨ i = z := by
    intro i hi hc
    rw [List.all_eq_true] at hn
    have h1 := hn i (List.mem_range.2 hi)
    have h2 : i ∉ x :: S := fun hm => by rw [List.contains_iff_mem.2 hm] at hc; cases hc
    simp only [List.mem_cons, not_or] at h2
    have h3 : S.contains i = false := by
      cases h4 : S.contains i
      · rfl
      · exact absurd (List.contains_iff_mem.1 h4) h2.2
    rw [h3] at h1
    have h5 : (i == x) = false := by simpa using h2.1
    rw [h5] at h1
    simpa using h1
  have yO : (x :: S).contains y = false := by
    cases hc : (x :: S).contains y
    · rfl
    · rcases List.mem_cons.1 (List.contains_iff_mem.1 hc) with h | h
      · exact absurd h.symm hx.2.2.2.1
      · exact absurd rfl (notS y h).2.1
  have zO : (x :: S).contains z = false := by
    cases hc : (x :: S).contains z
    · rfl
    · rcases List.mem_cons.1 (List.contains_iff_mem.1 hc) with h | h
      · exact absurd h.symm hx.2.2.2.2.1
      · exact absurd rfl (notS z h).2.2
  have zz : ∀ j, (Array.replicate ops.size false).getD j false = false := by intro j; simp [Array.getElem?_replicate]; split <;> rfl
  refine wp_region_any hm (wpAny_phaseP (Pb := fun i => S.contains i) (Ob := fun i => (x :: S).contains i) (fun l a w => Fr6 ((x :: S).map (D.getD · 0)) a0 a ∧ Below W.heap.size W w ∧ (∀ i, i ∈ x :: S → l.getD i false = true → R i (a.tmps.getD (D.getD i 0) undef) w)) hb
    ⟨y, hx.2.1, yO⟩ ?_ ?_ ?_ _ _ _ _ ?_ (by simp) ?_ ?_ ?_)
  · intro i hi hc k hk hkp
    rw [List.all_eq_true] at ht
    have hi3 : i ∈ [y, z] := by rcases hrest i hi hc with rfl | rfl <;> simp
    have := ht i hi3
    rw [List.all_eq_true] at this
    exact this k (List.contains_iff_mem.1 hkp)
  · rintro l a w i ⟨hF, hbw, hR⟩ hl hi hip hir
    have hiS := List.contains_iff_mem.1 hip
    have ps : a.tmps.size = a0.tmps.size := hF.2.1
    refine step i a w _ hiS hF hbw (fun k hk => hR k ?_ (waits_spec hk hir)) (fun u w' hu hbb => ⟨hF.put (hmem i hiS) _, hbw.trans (hbb.mono hbw.size), fun j hj hjl => ?_⟩)
    · rw [List.all_eq_true] at hw
      have h1 := hw i hiS
      rw [List.all_eq_true] at h1
      have hks : k < ops.size := by
        rcases Nat.lt_or_ge k ops.size with h | h
        · exact h
        · exfalso
          have := waits_spec hk hir
          have h2 : l.size ≤ k := by omega
          simp [Array.getElem?_eq_none h2] at this
      have h2 := h1 k (List.mem_range.2 hks)
      rw [hk] at h2
      exact List.mem_cons_of_mem _ (List.contains_iff_mem.1 (by simpa using h2))
    · by_cases hij : i = j
      · subst hij; rw [put_same _ _ _ (by rw [ps]; exact hlt i hiS)]; exact hu
      · rw [getD_set_ne false hij] at hjl
        rw [put_other _ _ _ _ (hne i j hiS hj hij)]
        exact st j _ _ _ hj (hR j hj hjl) hbb
  · rintro l a w ⟨hF, hbw, hR⟩ hl hall hno fuel hfu
    have hf := fin a w hF hbw (fun i hi => hR i (List.mem_cons_of_mem _ hi) (hall i (memS i hi) (List.contains_iff_mem.2 hi)))
    have gt : ∀ (m : Array Bool) (j : Nat), j < m.size → m.getD j false = false → m.getD j true = false := by
      intro m j hj h
      simp [hj] at h ⊢; exact h
    have ly := gt l y (by have := hx.2.1; omega) (hno y hx.2.1 yO)
    have lz := gt l z (by have := hx.2.2.1; omega) (hno z hx.2.2.1 zO)
    have hval : ∀ i, i < ops.size → i ≠ x → l.getD i false = S.contains i := by
      intro i hi hix
      cases hc : S.contains i
      · refine hno i hi ?_
        cases hc2 : (x :: S).contains i
        · rfl
        · rcases List.mem_cons.1 (List.contains_iff_mem.1 hc2) with h | h
          · exact absurd h hix
          · rw [List.contains_iff_mem.2 h] at hc; cases hc
      · exact hall i hi hc
    have xS : S.contains x = false := by
      cases hc : S.contains x
      · rfl
      · exact absurd rfl (notS x (List.contains_iff_mem.1 hc)).1
    have two : 2 ≤ still l := by
      have s1 := still_set ly
      have e2 : (l.setIfInBounds y true).getD z true = false := by rw [getD_set_ne true hx.2.2.2.2.2]; exact lz
      have s2 := still_set e2
      omega
    cases hlx : l.getD x false
    · have hlL : l = ((List.range ops.size).map (S.contains ·)).toArray := by
        apply Array.ext
        · simp [hl]
        · intro i h1 h2
          have : l.getD i false = S.contains i := by
            by_cases hix : i = x
            · rw [hix, hlx, xS]
            · exact hval i (by omega) hix
          simp only [Array.getD_eq_getD_getElem?, Array.getElem?_eq_getElem h1, Option.getD_some] at this
          rw [this]; simp
      have lx := gt l x (by have := hx.1; omega) hlx
      have three : 3 ≤ still l := by
        have s1 := still_set lx
        have e1 : (l.setIfInBounds x true).getD y true = false := by rw [getD_set_ne true hx.2.2.2.1]; exact ly
        have s2 := still_set e1
        have e2 : ((l.setIfInBounds x true).setIfInBounds y true).getD z true = false := by rw [getD_set_ne true hx.2.2.2.2.2, getD_set_ne true hx.2.2.2.2.1]; exact lz
        have s3 := still_set e2
        omega
      rw [hlL]
      exact wpAny_late (by omega) r1 r2 r3 r4 r5 r6 r7 hf.1.1 hf.1.2
    · have hlL : l = (((List.range ops.size).map (S.contains ·)).toArray.setIfInBounds x true) := by
        apply Array.ext
        · simp [hl]
        · intro i h1 h2
          by_cases hix : i = x
          · subst hix
            simp only [Array.getD_eq_getD_getElem?, Array.getElem?_eq_getElem h1, Option.getD_some] at hlx
            rw [hlx]; simp
          · have := hval i (by omega) hix
            simp only [Array.getD_eq_getD_getElem?, Array.getElem?_eq_getElem h1, Option.getD_some] at this
            rw [this, Array.getElem_setIfInBounds]
            rw [if_neg (fun e => hix e.symm)]; simp
            exact (by simp; omega)
      rw [hlL]
      exact wpAny_two (by omega) r2 r4 r6 (hf.2 (hR x (List.mem_cons_self ..) hlx))
  · unfold still; exact Nat.le_trans (List.count_le_length) (by simp)
  · exact fun j hj => absurd hj (by rw [zz]; simp)
  · exact fun k _ _ => zz k
  · exact ⟨⟨rfl, rfl, fun _ _ => rfl⟩, ⟨rfl, rfl, rfl, Nat.le_refl _, fun _ _ => rfl⟩, fun i _ hi => absurd hi (by rw [zz]; simp)⟩
end
end Go.Proofs.Ytmgdpchjimlmeaa
