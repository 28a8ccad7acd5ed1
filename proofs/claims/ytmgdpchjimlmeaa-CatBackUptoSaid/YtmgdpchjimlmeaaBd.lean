/-
  blob.Pages: a range over the iterator.
-/
import Derived.Test.YtmgdpchjimlmeaaBc
namespace Go.Proofs.Ytmgdpchjimlmeaa
open Go.RowKit Go.Shelf
set_option linter.unusedSimpArgs false
set_option linter.unusedVariables false
attribute [local go_sem] Oper.semAt_some

/-- What the caller of a range holds: a slice in box b that owns what has come; all below b as in V. -/
structure Gt {α : Type} (b : Nat) (T T1 : TypeId) (m : Nat) (enc : α → Value) (w V : World) (s : List α) (X : Nat → Prop) (A : World) : Prop where
  box : ∃ vv, Boxed A b T vv ∧ A.ownsRow w.heap.size T1 m vv s.length (s.map enc) ∧ ∀ g, vv.ownBlock = some g → ¬ X g ∧ V.heap.size + 2 ≤ g
  low : ∀ k, k < b → A.heap[k]? = V.heap[k]?
  bel : Below w.heap.size w A
  hV : V.heap.size ≤ A.heap.size
  hX : ∀ k, X k → V.heap.size ≤ k
theorem heap_ha (w : World) (o : Obj) (k : Nat) : (w.alloc o).heap[k]? = if k = w.heap.size then some o else w.heap[k]? := by
  show (w.heap.push o)[k]? = _
  rw [Array.getElem?_push]
theorem slice_of_own {w : World} {T : TypeId} {B m n : Nat} {v : Value} {xs : List Value} (h : w.ownsRow B T m v n xs) : ∃ A c, v = .slice A n c := by
  rcases h.2 with ⟨h0, h1⟩ | ⟨b, cap, cur, h1, _⟩
  · exact ⟨none, 0, by rw [h0, h1]⟩
  · exact ⟨_, _, h1⟩
theorem Gt.below {α : Type} {b m : Nat} {T T1 : TypeId} {enc : α → Value} {w V : World} {s : List α} {X X' : Nat → Prop} {A B : World} (h : Gt b T T1 m enc w V s X A) (hb : b < V.heap.size) (hw : w.heap.size ≤ b) (hB : Below A.heap.size A B) (hX : ∀ k, X' k → X k ∨ A.heap.size ≤ k) : Gt b T T1 m enc w V s X' B := by
  obtain ⟨⟨vv, h1, h2, h3⟩, l, bl, hv, hx⟩ := h
  refine ⟨⟨vv, (hB.block _ h1.lt).trans h1, own_below h2 hB, fun g e => ⟨fun hg => ?_, (h3 g e).2⟩⟩, fun k hk => (hB.block k (by omega)).trans (l k hk), bl.trans (hB.mono (by omega)), Nat.le_trans hv hB.size, fun k hk => ?_⟩
  · rcases hX g hg with a | a
    · exact (h3 g e).1 a
    · obtain ⟨cc, fz, h4⟩ := Lib.ownsRow_kind h2 g e
      have := heap_lt h4
      omega
  · rcases hX k hk with a | a
    · exact hx k a
    · omega
theorem Gt.stays {α : Type} {b m : Nat} {T T1 : TypeId} {enc : α → Value} {w V : World} (hb : b < V.heap.size) (hw : w.heap.size ≤ b) : Stays (Gt (α := α) b T T1 m enc w V) := by
  refine ⟨fun s X A B h hB => h.below hb hw hB (fun k hk => hk.elim .inl (fun x => .inr x.1)), fun s X A B g h hg hr => ?_⟩
  obtain ⟨⟨vv, h1, h2, h3⟩, l, bl, hv, hx⟩ := h
  have hg1 := hx g hg
  refine ⟨⟨vv, h1.kept hr (fun e => by have := Option.some.inj e; omega), h2.kept hr ?_, fun g' e => ⟨fun hg' => ?_, (h3 g' e).2⟩⟩, fun k hk => (hr.block k (by omega) (fun e => by have := Option.some.inj e; omega)).trans (l k hk), bl.grown hr (by omega) (fun k e => by have := Option.some.inj e; omega), Nat.le_trans hv hr.size, fun k hk => ?_⟩
  · exact .inr fun e => (h3 g e).1 hg
  · rcases hg' with a | a
    · exact (h3 g' e).1 a
    · obtain ⟨cc, fz, h4⟩ := Lib.ownsRow_kind h2 g' e
      have := heap_lt h4
      omega
  · rcases hk with a | a
    · exact hx k a
    · omega
theorem Gt.put {α : Type} {b m : Nat} {T T1 : TypeId} {enc : α → Value} {w V : World} {s : List α} {X : Nat → Prop} {A : World} (h : Gt b T T1 m enc w V s X A) (hb : b < V.heap.size) (hw : w.heap.size ≤ b) {r : Nat} (hr : r = V.heap.size ∨ r = V.heap.size + 1) (o : Obj) : Gt b T T1 m enc w V s X (A.putObj r o) := by
  obtain ⟨⟨vv, h1, h2, h3⟩, l, bl, hv, hx⟩ := h
  have hg := grownBy_putObj' A r o
  refine ⟨⟨vv, h1.kept hg (fun e => by have := Option.some.inj e; omega), h2.kept hg (.inr fun e => ?_), h3⟩, fun k hk => (hg.block k (by omega) (fun e => by have := Option.some.inj e; omega)).trans (l k hk), bl.grown hg (by omega) (fun k e => by have := Option.some.inj e; omega), Nat.le_trans hv hg.size, hx⟩
  have := (h3 r e).2
  omega
end Go.Proofs.Ytmgdpchjimlmeaa
