/-
  Pages that are used: a set in a map; what is asked of it.
-/
import Derived.Test.YtmgdpchjimlmeaaEa
import Derived.Maps.OwnSet
import Derived.Maps.RangeWalk
import Derived.Maps.Ext
namespace Go.Proofs.Ytmgdpchjimlmeaa
open Go.RowKit
set_option linter.unusedSimpArgs false
set_option linter.unusedVariables false
theorem iK : Maps.Keyed Try.prog 3 := Maps.int_keyed Try.underlying3
theorem zU (w : World) : (zeroValue 75).run Try.prog w = .ok (.agg #[]) w := by kernel_rfl
/-- Is a key a page of the set? -/
def inU (U : Nat → Bool) : Lit → Bool
  | .int .i64 x => decide (0 ≤ x) && (decide (x < 512) && U x.toNat)
  | _ => false
theorem inU_nat (U : Nat → Bool) (i : Nat) : inU U (.int .i64 (i : Int)) = (decide (i < 512) && U i) := by
  have h1 : decide ((0 : Int) ≤ (i : Int)) = true := decide_eq_true (by omega)
  have h2 : decide ((i : Int) < 512) = decide (i < 512) := by rw [Bool.eq_iff_iff, decide_eq_true_eq, decide_eq_true_eq]; omega
  show (decide ((0 : Int) ≤ (i : Int)) && (decide ((i : Int) < 512) && U (i : Int).toNat)) = _
  rw [h1, h2, Bool.true_and]; simp
theorem inU_true {U : Nat → Bool} {kl : Lit} (h : inU U kl = true) : ∃ i : Nat, kl = .int .i64 (i : Int) ∧ i < 512 ∧ U i = true := by
  cases kl with
  | int q x =>
    cases q <;> simp [inU] at h
    refine ⟨x.toNat, ?_, by omega, h.2.2⟩
    rw [show ((x.toNat : Nat) : Int) = x by omega]
  | _ => simp [inU] at h
theorem inU_ext {U V : Nat → Bool} (h : ∀ i, i < 512 → U i = V i) (kl : Lit) : inU U kl = inU V kl := by
  cases kl with
  | int q x =>
    cases q <;> first | rfl | skip
    show (decide ((0 : Int) ≤ x) && (decide (x < 512) && U x.toNat)) = (decide ((0 : Int) ≤ x) && (decide (x < 512) && V x.toNat))
    by_cases h1 : x < 512
    · rw [h _ (by omega)]
    · rw [decide_eq_false h1]; rfl
  | _ => rfl
theorem keyLit (i : Int) : WideAt.IsKeyLit (.int .i64 i) := trivial
/-- Block b is a map of at most n entries whose keys are just the pages of U. -/
def Us (w : World) (b n : Nat) (U : Nat → Bool) : Prop := ∃ D : DataW Unit, w.ownsMap Try.prog 3 (unitElem (H := Unit)) b n D ∧ ∀ kl, Maps.has D kl = inU U kl
theorem Us.kept {w w' : World} {b n : Nat} {U : Nat → Bool} {row : Option Nat} (h : Us w b n U) (hg : w.grownBy w' row) (hne : some b ≠ row) : Us w' b n U := by
  obtain ⟨D, h1, h2⟩ := h
  exact ⟨D, h1.kept hg hne, h2⟩
theorem Us.lt {w : World} {b n : Nat} {U : Nat → Bool} (h : Us w b n U) : b < w.heap.size := by
  obtain ⟨D, h1, h2⟩ := h
  exact h1.lt
theorem Us.isMap {w : World} {b n : Nat} {U : Nat → Bool} (h : Us w b n U) : ∃ es clock, w.heap[b]? = some (.map es clock) := by
  obtain ⟨D, ⟨es, clock, hb, _⟩, h2⟩ := h
  exact ⟨es, clock, hb⟩
theorem Us.same {w w' : World} {b n : Nat} {U : Nat → Bool} (h : Us w b n U) (hg : w'.heap[b]? = w.heap[b]?) : Us w' b n U := by
  obtain ⟨D, ⟨es, clock, hb, r⟩, h2⟩ := h
  exact ⟨D, ⟨es, clock, hg.trans hb, r⟩, h2⟩
theorem Us.below {w w' : World} {b n : Nat} {U : Nat → Bool} (h : Us w b n U) (hb : Below w.heap.size w w') : Us w' b n U := h.same (hb.block b h.lt)
theorem Us.mono {w : World} {b n n' : Nat} {U : Nat → Bool} (h : Us w b n U) (hn : n ≤ n') : Us w b n' U := by
  obtain ⟨D, h1, h2⟩ := h
  exact ⟨D, h1.mono hn, h2⟩
theorem Us.ext {w : World} {b n : Nat} {U V : Nat → Bool} (h : Us w b n U) (he : ∀ i, i < 512 → U i = V i) : Us w b n V := by
  obtain ⟨D, h1, h2⟩ := h
  exact ⟨D, h1, fun kl => (h2 kl).trans (inU_ext he kl)⟩
theorem inU_none (kl : Lit) : inU (fun _ => false) kl = false := by
  cases kl with
  | int q x => cases q <;> simp [inU]
  | _ => rfl
theorem Us.made (w : World) : Us (w.alloc (.map #[] 0)) w.heap.size 0 (fun _ => false) :=
  ⟨_, World.ownsMap_made _ _ _ _, fun kl => by rw [inU_none]; rfl⟩
theorem has_ins {D : DataW Unit} {U : Nat → Bool} {p : Nat} (hp : p < 512) (hm : Maps.IsMap D) (h : ∀ kl, Maps.has D kl = inU U kl) (d : DataW Unit) (kl : Lit) : Maps.has (D.put (.int .i64 (p : Int)) d) kl = inU (fun i => U i || i == p) kl := by
  by_cases e : kl = .int .i64 (p : Int)
  · subst e
    rw [Maps.has_put_same hm (keyLit _), inU_nat]
    simp [hp]
  · rw [Maps.has_put_other e, h kl]
    cases kl with
    | int q x =>
      cases q <;> first | rfl | skip
      show (decide ((0 : Int) ≤ x) && (decide (x < 512) && U x.toNat)) = (decide ((0 : Int) ≤ x) && (decide (x < 512) && (U x.toNat || x.toNat == p)))
      by_cases h0 : 0 ≤ x
      · have h3 : (x.toNat == p) = false := by
          rw [beq_eq_false_iff_ne]
          intro hh
          apply e
          rw [show x = (p : Int) by omega]
        rw [h3, Bool.or_false]
      · rw [decide_eq_false h0]; rfl
    | _ => rfl
theorem wf_nat {i : Nat} (h : i < 512) : (Lit.int .i64 (i : Int)).wf = true := by
  exact WalkArith.wf_i64 (by omega)

set_option maxHeartbeats 1000000 in
set_option maxRecDepth 100000 in
theorem uses_any {b bm k : Nat} {U : Nat → Bool} (n : Int) (q : Bool) (w : World) (h : Us w bm k U) (hc : w.cell? ⟨b, 2, none⟩ = some (.map (some bm))) (hn : (Lit.int .i64 n).wf = true) (hq : inU U (.int .i64 n) = q) :
    Calls Try.prog 43 #[.pointer (some ⟨b, 0, none⟩), .int .i64 n] w fun e w' => e = .returned (.bool q) ∧ Below w.heap.size w w' := by
  obtain ⟨D, hown, hD⟩ := h
  have hkey := Maps.keyOf_int_mk Try.underlying3 hn
  have hh := (hD (.int .i64 n)).trans hq
  have HH := Lib.hid hh
  clear hD hq hh
  go_enter Try.func43, Try.ntmps43
  go_wp2_with (first | (at_lookup; refine wpList_lookup_own_unit _ rfl _ _ 60 rfl 3 75 iK Try.underlying60 (zU _) bm k D rfl hown _ _ rfl hkey ?_; rw [HH.out]) | go_in)
  go_ret
  exact ⟨rfl, bda _ _⟩
end Go.Proofs.Ytmgdpchjimlmeaa
