/-
  A region that draws its order: its operands in whatever order (loads, calls, new boxes), then its stores in the one order that is left.
-/
import Derived.Test.YtmgdpchjimlmeaaReg
namespace Go.Proofs.Ytmgdpchjimlmeaa
open Go.RowKit
section
variable {P : Program} {ops : Array Oper} {Q : Exit → Act → World → Prop} {md : Region.Mode}
/-- Number i waits for number k, by others. -/
def waitsT (md : Region.Mode) (ops : Array Oper) : Nat → Nat → Nat → Bool
  | 0, _, _ => false
  | f + 1, i, k => waitsB md ops i k || (List.range ops.size).any fun m => waitsB md ops i m && waitsT md ops f m k
/-- What is listed has all listed that it waits for. -/
def Down (md : Region.Mode) (ops : Array Oper) (l : Array Bool) : Prop := ∀ j, l.getD j false = true → ∀ k, waitsB md ops j k = true → l.getD k false = true
theorem Down.set {l : Array Bool} (h : Down md ops l) {i : Nat} (hi : i ∈ Region.ready md ops l) : Down md ops (l.setIfInBounds i true) := by
  intro j hj k hk
  by_cases hji : i = j
  · subst hji; exact getD_set_true (waits_spec hk hi)
  · rw [getD_set_ne false hji] at hj; exact getD_set_true (h j hj k hk)
theorem Down.through {l : Array Bool} (h : Down md ops l) : ∀ (f j k : Nat), l.getD j false = true → waitsT md ops f j k = true → l.getD k false = true
  | 0, _, _, _, hw => by cases hw
  | f + 1, j, k, hj, hw => by
    simp only [waitsT, Bool.or_eq_true, List.any_eq_true, Bool.and_eq_true] at hw
    rcases hw with hw | ⟨m, _, h1, h2⟩
    · exact h j hj k hw
    · exact h.through f m k (h j hj m h1) h2
theorem Down.ready {l : Array Bool} (h : Down md ops l) {f i k : Nat} (hi : i ∈ Region.ready md ops l) (hw : waitsT md ops f i k = true) : l.getD k false = true := by
  cases f with
  | zero => cases hw
  | succ f =>
    simp only [waitsT, Bool.or_eq_true, List.any_eq_true, Bool.and_eq_true] at hw
    rcases hw with hw | ⟨m, _, h1, h2⟩
    · exact waits_spec hw hi
    · exact h.through f m k (waits_spec h1 hi) h2
/-- Each from n0 on waits for all ahead of it. -/
def tailB (md : Region.Mode) (ops : Array Oper) (n0 : Nat) : Bool := (List.range ops.size).all fun i => decide (i < n0) || (List.range i).all fun k => waitsT md ops ops.size i k
def tails (m : Nat) : Nat → List Nat
  | 0 => []
  | n + 1 => m :: tails (m + 1) n
theorem wpAny_phase {n0 : Nat} (I : Array Bool → Act → World → Prop) (hn : n0 ≤ ops.size) (hb : backB md ops = true) (ht : tailB md ops n0 = true)
    (step : ∀ l a w i, I l a w → l.size = ops.size → i < n0 → i ∈ Region.ready md ops l → wpOp P ops Q i (fun a' w' => I (l.setIfInBounds i true) a' w') a w)
    (fin : ∀ l a w, I l a w → l.size = ops.size → (∀ i, i < n0 → l.getD i false = true) → wpOps P ops Q (tails n0 (ops.size - n0)) a w) {a : Act} {w : World}
    (h : I (Array.replicate ops.size false) a w) : wpAny P md ops Q ops.size (Array.replicate ops.size false) a w := by
  have z : ∀ j, (Array.replicate ops.size false).getD j false = false := by intro j; simp [Array.getElem?_replicate]; split <;> rfl
  have hwt : ∀ i, n0 ≤ i → i < ops.size → ∀ k, k < i → waitsT md ops ops.size i k = true := by
    intro i h1 h2 k hk
    simp only [tailB, List.all_eq_true, List.mem_range, Bool.or_eq_true, decide_eq_true_eq] at ht
    rcases ht i h2 with h3 | h3
    · omega
    · exact h3 k hk
  refine wpAny_inv (fun l a w => l.size = ops.size ∧ Down md ops l ∧ (((∀ k, n0 ≤ k → l.getD k false = false) ∧ I l a w) ∨ ∃ m, n0 ≤ m ∧ m ≤ ops.size ∧ (∀ k, k < m → l.getD k false = true) ∧ (∀ k, m ≤ k → l.getD k false = false) ∧ wpOps P ops Q (tails m (ops.size - m)) a w)) ?_ ?_ _ _ _ _ ⟨by simp, fun j hj => absurd hj (by rw [z]; simp), .inl ⟨fun k _ => z k, h⟩⟩ (by simp [still])
  · rintro l a w i ⟨hl, hd, hor⟩ hi
    have hiu := (mem_ready.1 hi).1
    have hin : i < ops.size := by
      rcases Nat.lt_or_ge i l.size with h' | h'
      · omega
      · simp [Array.getElem?_eq_none h'] at hiu
    have hif : l.getD i false = false := by
      have : i < l.size := by omega
      simp [this] at hiu ⊢; exact hiu
    have sz : ∀ j, (l.setIfInBounds i true).getD j false = (if i = j then true else l.getD j false) := fun j => getD_set l i j (by omega)
    have key : ∀ m, n0 ≤ m → m ≤ ops.size → (∀ k, k < m → l.getD k false = true) → (∀ k, m ≤ k → l.getD k false = false) → wpOps P ops Q (tails m (ops.size - m)) a w → i = m ∧ wpOp P ops Q i (fun a' w' => wpOps P ops Q (tails (m + 1) (ops.size - (m + 1))) a' w') a w := by
      intro m h1 h2 h3 h4 h5
      have him : i = m := by
        rcases Nat.lt_trichotomy i m with h6 | h6 | h6
        · rw [h3 i h6] at hif; cases hif
        · exact h6
        · have := hd.ready hi (hwt i (by omega) hin m h6)
          rw [h4 m (Nat.le_refl _)] at this; cases this
      subst him
      refine ⟨rfl, ?_⟩
      have e : ops.size - i = (ops.size - (i + 1)) + 1 := by omega
      rw [e] at h5
      simp only [tails, wpOps_cons] at h5
      exact h5
    have fin2 : ∀ m, n0 ≤ m → m ≤ ops.size → (∀ k, k < m → l.getD k false = true) → (∀ k, m ≤ k → l.getD k false = false) → wpOps P ops Q (tails m (ops.size - m)) a w → wpOp P ops Q i (fun a' w' => (l.setIfInBounds i true).size = ops.size ∧ Down md ops (l.setIfInBounds i true) ∧ (((∀ k, n0 ≤ k → (l.setIfInBounds i true).getD k false = false) ∧ I (l.setIfInBounds i true) a' w') ∨ ∃ m, n0 ≤ m ∧ m ≤ ops.size ∧ (∀ k, k < m → (l.setIfInBounds i true).getD k false = true) ∧ (∀ k, m ≤ k → (l.setIfInBounds i true).getD k false = false) ∧ wpOps P ops Q (tails m (ops.size - m)) a' w')) a w := by
      intro m h1 h2 h3 h4 h5
      obtain ⟨rfl, h6⟩ := key m h1 h2 h3 h4 h5
      refine wpOp_mono (fun a' w' h7 => ⟨by simpa using hl, hd.set hi, .inr ⟨i + 1, by omega, hin, fun k hk => ?_, fun k hk => ?_, h7⟩⟩) h6
      · rw [sz]; split
        · rfl
        · exact h3 k (by omega)
      · rw [sz, if_neg (by omega)]; exact h4 k (by omega)
    rcases hor with ⟨hno, hI⟩ | ⟨m, h1, h2, h3, h4, h5⟩
    · rcases Nat.lt_or_ge i n0 with hlt | hge
      · refine wpOp_mono (fun a' w' h7 => ⟨by simpa using hl, hd.set hi, .inl ⟨fun k hk => ?_, h7⟩⟩) (step l a w i hI hl hlt hi)
        rw [sz, if_neg (by omega)]; exact hno k hk
      · have h3 : ∀ k, k < n0 → l.getD k false = true := fun k hk => hd.ready hi (hwt i hge hin k (by omega))
        exact fin2 n0 (Nat.le_refl _) hn h3 hno (fin l a w hI hl h3)
    · exact fin2 m h1 h2 h3 h4 h5
  · rintro l a w ⟨hl, hd, hor⟩ hr
    have hall := all_of_back hb hl hr
    rcases hor with ⟨hno, hI⟩ | ⟨m, h1, h2, h3, h4, h5⟩
    · have hnn : n0 = ops.size := by
        rcases Nat.lt_or_ge n0 ops.size with h' | h'
        · have := hall n0 h'; rw [hno n0 (Nat.le_refl _)] at this; cases this
        · omega
      have := fin l a w hI hl (fun i hi => hall i (by omega))
      rw [hnn, Nat.sub_self] at this
      simpa [tails, wpOps] using this
    · have hnn : m = ops.size := by
        rcases Nat.lt_or_ge m ops.size with h' | h'
        · have := hall m h'; rw [h4 m (Nat.le_refl _)] at this; cases this
        · omega
      rw [hnn, Nat.sub_self] at h5
      simpa [tails, wpOps] using h5
/-- All slots but those of D are as they were, and are so when these are put anew. -/
theorem Fr6.fold {D : List Tmp} {a0 a : Act} (h : Fr6 D a0 a) (hin : (D.all fun t => decide (t < a0.tmps.size)) = true) : a = D.foldl (fun b t => b.put (some t) (a.tmps.getD t undef)) a0 := by
  have key : ∀ (D : List Tmp) (b : Act), (D.all fun t => decide (t < b.tmps.size)) = true → b.defers = a.defers → b.tmps.size = a.tmps.size → (∀ j, j ∉ D → a.tmps.getD j undef = b.tmps.getD j undef) → a = D.foldl (fun b t => b.put (some t) (a.tmps.getD t undef)) b := by
    intro D
    induction D with
    | nil => intro b _ h1 h2 h3; exact act_ext h1.symm h2.symm (fun j => h3 j (by simp))
    | cons t D ih =>
      intro b h0 h1 h2 h3
      simp only [List.all_cons, Bool.and_eq_true, decide_eq_true_eq] at h0
      rw [List.foldl_cons]
      refine ih _ ?_ (by rw [put_defers]; exact h1) (by rw [put_size]; exact h2) (fun j hj => ?_)
      · rw [List.all_eq_true] at h0 ⊢
        intro x hx; rw [put_size]; exact h0.2 x hx
      · exact put_at j h0.1 rfl (fun hne => h3 j (by simp [hne, hj]))
  exact key D a0 hin h.1.symm h.2.1.symm h.2.2
/-- Loads, calls and new boxes in whatever order; behind them the stores. -/
theorem wp_operands {id : Nat} {a0 : Act} {W : World} (hm : P.follows .mixedOrders = true) (n0 : Nat) (D : List Tmp) (R : Nat → Value → World → Prop) (al : Nat → Bool)
    (hn : n0 ≤ ops.size) (hD : D.length = n0) (hb : backB .any ops = true) (ht : tailB .any ops n0 = true) (hnd : D.Nodup) (hin : (D.all fun t => decide (t < a0.tmps.size)) = true)
    (st : ∀ i u w w', i < n0 → R i u w → Below w.heap.size w w' → R i u w')
    (hal : ∀ i u w, al i = true → R i u w → ∃ g, u = .pointer (some ⟨g, 0, none⟩) ∧ g < w.heap.size)
    (step : ∀ i a w K, i < n0 → Fr6 D a0 a → Below W.heap.size W w → (∀ k, waitsB .any ops i k = true → R k (a.tmps.getD (D.getD k 0) undef) w) →
      (∀ u w', R i u w' → Below w.heap.size w w' → (al i = true → u = .pointer (some ⟨w.heap.size, 0, none⟩)) → K (a.put (some (D.getD i 0)) u) w') → wpOp P ops Q i K a w)
    (fin : ∀ a w, Fr6 D a0 a → Below W.heap.size W w → (∀ i, i < n0 → R i (a.tmps.getD (D.getD i 0) undef) w) → (∀ i j, i < n0 → j < n0 → i ≠ j → al i = true → al j = true → a.tmps.getD (D.getD i 0) undef ≠ a.tmps.getD (D.getD j 0) undef) →
      wpOps P ops Q (tails n0 (ops.size - n0)) a w) : (Code.region id ops true).wp P Q a0 W := by
  have hmem : ∀ i, i < n0 → D.getD i 0 ∈ D := fun i hi => by rw [List.getD_eq_getElem?_getD, List.getElem?_eq_getElem (by omega)]; exact List.getElem_mem _
  have hlt : ∀ i, i < n0 → D.getD i 0 < a0.tmps.size := fun i hi => by
    rw [List.all_eq_true] at hin
    simpa using hin _ (hmem i hi)
  have hne : ∀ i j, i < n0 → j < n0 → i ≠ j → D.getD i 0 ≠ D.getD j 0 := fun i j hi hj h e => by
    rw [List.getD_eq_getElem?_getD, List.getD_eq_getElem?_getD, List.getElem?_eq_getElem (by omega), List.getElem?_eq_getElem (by omega)] at e
    exact h ((List.getElem_inj hnd).1 (by simpa using e))
  have hwk : ∀ l : Array Bool, l.size = ops.size → ∀ i k, i ∈ Region.ready .any ops l → waitsB .any ops i k = true → i < n0 → k < n0 := by
    intro l hl i k hi hk hi0
    have hlt : i < ops.size := by omega
    simp only [backB, List.all_eq_true, List.mem_range] at hb
    have h1 := hb i hlt
    simp only [Array.getElem?_eq_getElem hlt, Option.map_some, Option.getD_some, Array.all_eq_true_iff_forall_mem] at h1
    simp only [waitsB, Array.getElem?_eq_getElem hlt, Option.map_some, Option.getD_some, Array.any_eq_true'] at hk
    obtain ⟨e, he, h2⟩ := hk
    simp only [Bool.and_eq_true, beq_iff_eq] at h2
    have h3 := h1 e he
    simp only [h2.1, Bool.not_true, Bool.false_or, decide_eq_true_eq] at h3
    omega
  have z : ∀ j, (Array.replicate ops.size false).getD j false = false := by intro j; simp [Array.getElem?_replicate]; split <;> rfl
  refine wp_region_any hm (wpAny_phase (fun l a w => Fr6 D a0 a ∧ Below W.heap.size W w ∧ (∀ i, i < n0 → l.getD i false = true → R i (a.tmps.getD (D.getD i 0) undef) w) ∧
    (∀ i j, i < n0 → j < n0 → i ≠ j → l.getD i false = true → l.getD j false = true → al i = true → al j = true → a.tmps.getD (D.getD i 0) undef ≠ a.tmps.getD (D.getD j 0) undef)) hn hb ht ?_ ?_ ⟨⟨rfl, rfl, fun _ _ => rfl⟩, ⟨rfl, rfl, rfl, Nat.le_refl _, fun _ _ => rfl⟩, fun i _ hi => absurd hi (by rw [z]; simp), fun i j _ _ _ hi => absurd hi (by rw [z]; simp)⟩)
  · rintro l a w i ⟨hF, hbw, hR, hA⟩ hl hi0 hi
    have sz : ∀ j, (l.setIfInBounds i true).getD j false = (if i = j then true else l.getD j false) := fun j => getD_set l i j (by omega)
    have ps : a.tmps.size = a0.tmps.size := hF.2.1
    refine step i a w _ hi0 hF hbw (fun k hk => hR k (hwk l hl i k hi hk hi0) (waits_spec hk hi)) (fun u w' hu hbb hua => ⟨hF.put (hmem i hi0) _, hbw.trans (hbb.mono hbw.size), fun j hj hjl => ?_, fun j k hj hk hjk hjl hkl haj hak => ?_⟩)
    · by_cases hij : i = j
      · subst hij; rw [put_same _ _ _ (by rw [ps]; exact hlt i hi0)]; exact hu
      · rw [sz, if_neg hij] at hjl
        rw [put_other _ _ _ _ (hne i j hi0 hj hij)]
        exact st j _ _ _ hj (hR j hj hjl) hbb
    · by_cases hij : i = j
      · subst hij
        rw [put_same _ _ _ (by rw [ps]; exact hlt i hi0), put_other _ _ _ _ (hne i k hi0 hk hjk)]
        rw [sz, if_neg hjk] at hkl
        obtain ⟨g, e, hg⟩ := hal k _ _ hak (hR k hk hkl)
        rw [e, hua haj]; intro e2; injection e2 with e2; injection e2 with e2; injection e2 with e2; omega
      · rw [sz, if_neg hij] at hjl
        rw [put_other _ _ _ _ (hne i j hi0 hj hij)]
        by_cases hik : i = k
        · subst hik
          rw [put_same _ _ _ (by rw [ps]; exact hlt i hi0)]
          obtain ⟨g, e, hg⟩ := hal j _ _ haj (hR j hj hjl)
          rw [e, hua hak]; intro e2; injection e2 with e2; injection e2 with e2; injection e2 with e2; omega
        · rw [sz, if_neg hik] at hkl
          rw [put_other _ _ _ _ (hne i k hi0 hk hik)]
          exact hA j k hj hk hjk hjl hkl haj hak
  · rintro l a w ⟨hF, hbw, hR, hA⟩ _ hall
    exact fin a w hF hbw (fun i hi => hR i hi (hall i hi)) (fun i j hi hj hij h1 h2 => hA i j hi hj hij (hall i hi) (hall j hj) h1 h2)
end
end Go.Proofs.Ytmgdpchjimlmeaa
