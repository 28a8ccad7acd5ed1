/-
  A region that draws its order and whose calls turn old memory: as wp_operands, with a state that goes by what has come up.
-/
import Derived.Test.YtkbdcbcjbgbglaaRegB
namespace Go.Proofs.Ytkbdcbcjbgbglaa
open Go.RowKit
theorem wp_operandsZ {P : Program} {ops : Array Oper} {Q : Exit → Act → World → Prop} {id : Nat} {a0 : Act} {W : World} (hm : P.follows .mixedOrders = true) (n0 : Nat) (D : List Tmp) (R : Nat → Value → World → Prop) (Ch : World → World → Prop) (Z : (Nat → Bool) → World → Prop)
    (hn : n0 ≤ ops.size) (hD : D.length = n0) (hb : backB .any ops = true) (ht : tailB .any ops n0 = true) (hnd : D.Nodup) (hin : (D.all fun t => decide (t < a0.tmps.size)) = true)
    (htr : ∀ a b c, Ch a b → Ch b c → Ch a c)
    (st : ∀ i u w w', i < n0 → R i u w → Ch w w' → R i u w')
    (h0 : Ch W W.drew) (z0 : Z (fun _ => false) W.drew)
    (step : ∀ i a w l K, i < n0 → Fr6 D a0 a → Ch W w → l i = false → (∀ k, waitsB .any ops i k = true → l k = true ∧ R k (a.tmps.getD (D.getD k 0) undef) w) → Z l w →
      (∀ u w', R i u w' → Ch w w' → Z (fun j => if i = j then true else l j) w' → K (a.put (some (D.getD i 0)) u) w') → wpOp P ops Q i K a w)
    (fin : ∀ a w l, Fr6 D a0 a → Ch W w → (∀ i, i < n0 → R i (a.tmps.getD (D.getD i 0) undef) w) → (∀ i, i < n0 → l i = true) → Z l w →
      wpOps P ops Q (tails n0 (ops.size - n0)) a w) : (Code.region id ops true).wp P Q a0 W := by
  have hmem : ∀ i, i < n0 → D.getD i 0 ∈ D := fun i hi => by rw [List.getD_eq_getElem?_getD, List.getElem?_eq_getElem (by omega)]; exact List.getElem_mem _
  have hlt : ∀ i, i < n0 → D.getD i 0 < a0.tmps.size := fun i hi => by
    rw [List.all_eq_true] at hin
    simpa using hin _ (hmem i hi)
  have hne : ∀ i j, i < n0 → j < n0 → i ≠ j → D.getD i 0 ≠ D.getD j 0 := fun i j hi hj h e => by
    rw [List.getD_eq_getElem?_getD, List.getD_eq_getElem?_getD, List.getElem?_eq_getElem (by omega), List.getElem?_eq_getElem (by omega)] at e
    exact h ((List.getElem_inj hnd).1 (by simpa using e))
  have hwk : ∀ l : Array Bool, l.size = ops.size → ∀ i k, i ∈ Region.ready .any ops l → waitsB .any ops i k = true → i < n0 → k < n0 := by
    intro l hl i k hi hk hi0
    have hlt : i < ops.size := by omega
    simp only [backB, List.all_eq_true, List.mem_range] at hb
    have h1 := hb i hlt
    simp only [Array.getElem?_eq_getElem hlt, Option.map_some, Option.getD_some, Array.all_eq_true_iff_forall_mem] at h1
    simp only [waitsB, Array.getElem?_eq_getElem hlt, Option.map_some, Option.getD_some, Array.any_eq_true'] at hk
    obtain ⟨e, he, h2⟩ := hk
    simp only [Bool.and_eq_true, beq_iff_eq] at h2
    have h3 := h1 e he
    simp only [h2.1, Bool.not_true, Bool.false_or, decide_eq_true_eq] at h3
    omega
  have z : ∀ j, (Array.replicate ops.size false).getD j false = false := by intro j; simp [Array.getElem?_replicate]; split <;> rfl
  refine wp_region_any hm (wpAny_phase (fun l a w => Fr6 D a0 a ∧ Ch W w ∧ (∀ i, i < n0 → l.getD i false = true → R i (a.tmps.getD (D.getD i 0) undef) w) ∧
    Z (fun j => l.getD j false) w) hn hb ht ?_ ?_ ⟨⟨rfl, rfl, fun _ _ => rfl⟩, h0, fun i _ hi => absurd hi (by rw [z]; simp), by rw [show (fun j => (Array.replicate ops.size false).getD j false) = fun _ => false from funext z]; exact z0⟩)
  · rintro l a w i ⟨hF, hbw, hR, hZ⟩ hl hi0 hi
    have sz : ∀ j, (l.setIfInBounds i true).getD j false = (if i = j then true else l.getD j false) := fun j => getD_set l i j (by omega)
    have ps : a.tmps.size = a0.tmps.size := hF.2.1
    have hiu := (mem_ready.1 hi).1
    have hif : l.getD i false = false := by
      have : i < l.size := by omega
      simp [this] at hiu ⊢; exact hiu
    refine step i a w (fun j => l.getD j false) _ hi0 hF hbw hif (fun k hk => ⟨waits_spec hk hi, hR k (hwk l hl i k hi hk hi0) (waits_spec hk hi)⟩) hZ (fun u w' hu hbb hz => ⟨hF.put (hmem i hi0) _, htr _ _ _ hbw hbb, fun j hj hjl => ?_, by rw [show (fun j => (l.setIfInBounds i true).getD j false) = fun j => if i = j then true else l.getD j false from funext sz]; exact hz⟩)
    by_cases hij : i = j
    · subst hij; rw [put_same _ _ _ (by rw [ps]; exact hlt i hi0)]; exact hu
    · rw [sz, if_neg hij] at hjl
      rw [put_other _ _ _ _ (hne i j hi0 hj hij)]
      exact st j _ _ _ hj (hR j hj hjl) hbb
  · rintro l a w ⟨hF, hbw, hR, hZ⟩ _ hall
    exact fin a w _ hF hbw (fun i hi => hR i hi (hall i hi)) hall hZ
end Go.Proofs.Ytkbdcbcjbgbglaa
