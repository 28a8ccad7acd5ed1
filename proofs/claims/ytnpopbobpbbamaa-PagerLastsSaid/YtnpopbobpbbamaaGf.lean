/-
  pager's Used: the used pages, rising.
-/
import Derived.Test.YtnpopbobpbbamaaGc
import Derived.Test.YtnpopbobpbbamaaShelg
namespace Go.Proofs.Ytnpopbobpbbamaa
open Go.RowKit Go.Shelf
set_option linter.unusedSimpArgs false
set_option linter.unusedVariables false
/-- The pages of a set, rising. -/
def usedL (U : Nat → Bool) : List Nat := (List.range 512).filter U
theorem usedL_ext {U V : Nat → Bool} (h : ∀ i, i < 512 → U i = V i) : usedL U = usedL V := by
  unfold usedL
  exact List.filter_congr (fun i hi => h i (List.mem_range.1 hi))
theorem usedL_sorted (U : Nat → Bool) : ((usedL U).map fun i : Nat => (i : Int)).Pairwise (fun x y => x < y) := by
  rw [List.pairwise_map]
  refine List.Pairwise.imp (fun {a b} (h : a < b) => by omega) (List.Pairwise.filter _ List.pairwise_lt_range)
theorem usedL_perm {w : World} {b n : Nat} {U : Nat → Bool} {D : DataW Unit} (hown : w.ownsMap Try.prog 3 (unitElem (H := Unit)) b n D) (hD : ∀ kl, Maps.has D kl = inU U kl) : ((usedL U).map fun i : Nat => (i : Int)).Perm (intKeys D) := by
  obtain ⟨es, rfl, hp⟩ := hown.tidy iK
  refine perm_intKeys hp (fun p hpm => ?_) ((usedL_sorted U).imp (fun {a b} h => by omega)) (fun x => ?_)
  · have h1 : Maps.has (.map es) p.1 = true := by
      obtain ⟨es', e, _, hk⟩ := hown.canon iK
      injection e with e
      subst e
      exact List.any_eq_true.2 ⟨p, hpm, WideAt.sameKey_self (hk p hpm)⟩
    rw [hD] at h1
    obtain ⟨i, e, _⟩ := inU_true h1
    exact ⟨_, e⟩
  · rw [hD]
    constructor
    · intro h
      obtain ⟨i, hi, rfl⟩ := List.mem_map.1 h
      have := List.mem_filter.1 hi
      rw [inU_nat, this.2, decide_eq_true (List.mem_range.1 this.1)]; rfl
    · intro h
      obtain ⟨i, e, hi, hU⟩ := inU_true h
      injection e with _ e
      subst e
      exact List.mem_map.2 ⟨i, List.mem_filter.2 ⟨List.mem_range.2 hi, hU⟩, rfl⟩
theorem usedL_merge {U : Nat → Bool} {ss : List Int} (h : ss.Perm ((usedL U).map fun i : Nat => (i : Int))) : ss.mergeSort (fun x y => decide (x ≤ y)) = (usedL U).map fun i : Nat => (i : Int) := by
  have hs := List.pairwise_mergeSort (le := fun x y : Int => decide (x ≤ y)) (fun a b c h1 h2 => by simp at *; omega) (fun a b => by simp; omega) ss
  have hp := (List.mergeSort_perm ss (fun x y : Int => decide (x ≤ y))).trans h
  exact hp.eq_of_pairwise (fun a b _ _ h1 h2 => by simp at h1 h2; omega) hs ((usedL_sorted U).imp (fun {a b} h => by simp; omega))
theorem sortsA (m : Nat) : AnyZI.SortsIn Try.prog Try.sortedA_ren Fence.wide m :=
  ⟨fun blk off cap ss W hH hblk hsz => callsIn_wide.2 (AnyM.slices_Sort_int Try.sortA blk off cap ss W hH hblk hsz),
   fun p cap W => callsIn_wide.2 (AnyM.slices_Sort_int_none Try.sortA p cap W)⟩
set_option maxHeartbeats 4000000 in
set_option maxRecDepth 100000 in
theorem used_any {b bm k0 : Nat} {U : Nat → Bool} (w : World) (hu : Us w bm k0 U) (h2 : w.cell? ⟨b, 2, none⟩ = some (.map (some bm))) (hk : k0 ≤ 1000000) :
    Calls Try.prog 17 #[.pointer (some ⟨b, 0, none⟩)] w fun e w' => ∃ v, e = .returned v ∧ w'.ownsRow w.heap.size 3 1 v (usedL U).length ((usedL U).map nn) ∧ Below w.heap.size w w' := by
  obtain ⟨D, hown, hD⟩ := hu
  have PM := Lib.hid (usedL_perm hown hD)
  have hsz := hown.size_le
  have hmax : Maps.size D ≤ maxLen := by unfold maxLen; omega
  have hbytes : Maps.size D * 8 ≤ 140737488355328 := by omega
  refine (callsIn_wide (n := 6)).1 ?_
  have hbl := hown.lt
  have hseq : SeqGives Fence.wide 2 Try.prog 51 #[.pointer (some ⟨w.heap.size, 0, none⟩)] encZ (fun ss => ss.Perm (intKeys D)) (Maps.size D) (w.alloc (.cells #[.map (some bm)] 43)) :=
    AnyZI.keys_gives (ρ := Try.keysA_ren) { Try.keysA with } Fence.wide _ trivial rfl (by omega) w.heap.size bm k0 D _ (by simp) (by simp) (by
      obtain ⟨es, clock, hb, Ft, hs, hD⟩ := hown
      exact ⟨es, clock, (Below.heap_alloc _ _ bm hbl).trans hb, Ft, hs, hD⟩)
  have cK : ∀ mb W, CallsIn Fence.wide 5 Try.prog 38 #[.map mb] W fun e w' => e = .returned (.func (.func 51) #[] #[.pointer (some ⟨W.heap.size, 0, none⟩)]) ∧ w' = W.alloc (.cells #[.map mb] 43) := fun mb W => AnyZI.keys_in Try.keysA Fence.wide 5 trivial rfl mb W
  have cS := AnyZI.sorted_in Try.sortedA Fence.wide 5 trivial trivial trivial trivial rfl (by omega) (sortsA _) (enters_of Try.func50 (by kernel_rfl) rfl) 51 #[.pointer (some ⟨w.heap.size, 0, none⟩)] trivial (enters_of Try.func51 (by kernel_rfl) rfl) _ _ hmax hbytes _ hseq
  change CallsIn _ _ Try.prog 37 _ _ _ at cS
  have hfK : Fence.wide.fn 38 := trivial
  have hfS : Fence.wide.fn 37 := trivial
  clear hD hown hsz hmax hbytes hseq hbl
  refine callsIn_of_wp Try.func17 rfl trivial ?_ rfl
  simp only [Try.ntmps17, List.size_toArray, List.length_cons, List.length_nil, Nat.reduceAdd, Nat.reduceSub, Array.replicate_succ, Array.replicate_zero, List.push_toArray, List.append_toArray, List.nil_append, List.cons_append]
  gi_wp2_with (first
    | (gi_at_call 38; refine (cK _ _).mono ?_; rintro e w' ⟨rfl, rfl⟩)
    | (gi_at_call 37; refine cS.mono ?_; rintro e w' ⟨v, ss, rfl, hS, hrow, hnil, hb⟩))
  go_ret
  have e := usedL_merge (hS.trans PM.out.symm)
  have hl : ss.length = (usedL U).length := by have := congrArg List.length e; simpa using this
  rw [e, hl, List.map_map] at hrow
  exact ⟨v, rfl, ownsRow_base_a hrow (by simp), ((Below.refl _ w).alloc (Nat.le_refl _) _).trans (hb.mono (by simp))⟩
end Go.Proofs.Ytnpopbobpbbamaa
