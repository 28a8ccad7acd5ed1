/-
  A range over a function whose iterator keeps memory of its own that it writes between two rounds (what is handed on is known ahead: xs; no round leaves): the law for the caller.
-/
import Derived.RangeFuncNested
import Derived.RangeFuncBound
import Derived.RangeFuncCalls
import Derived.RangeFuncLeaves
import Derived.WalkKit
namespace Go.Proofs.Ytmgdpchjimlmeaa
open Go Go.RowKit
set_option linter.unusedVariables false
section
variable {α : Type} {F : Fence} {n : Nat} {P : Program}
/-- A word on a world, beside the blocks X that are the iterator's: it stays where the iterator lays blocks (they are its own then), and where it writes one of its own. -/
structure Stays (J : List α → (Nat → Prop) → World → Prop) : Prop where
  new : ∀ s X A B, J s X A → Below A.heap.size A B → J s (fun k => X k ∨ (A.heap.size ≤ k ∧ k < B.heap.size)) B
  own : ∀ s X A B g, J s X A → X g → A.grownBy B (some g) → J s (fun k => X k ∨ (A.heap.size ≤ k ∧ k < B.heap.size)) B
/-- The iterator hands on just xs, so long as each round says 'more' and keeps the blocks of Y and the iterator's own. -/
def Hands (F : Fence) (n : Nat) (P : Program) (g : Nat) (lb : Array Value) (encs : α → Array Value) (Y : Nat → Prop) (xs : List α) (w : World) : Prop :=
  ∀ (l : Nat) (J : List α → (Nat → Prop) → World → Prop) (W : World), Below w.heap.size w W → Stays J →
    (∀ pre x X W1, pre ++ [x] <+: xs → J pre X W1 → YieldAt F (n - 1) P l (encs x) W1 fun e W' => e = .returned (.bool true) ∧ J (pre ++ [x]) X W' ∧ W1.heap.size ≤ W'.heap.size ∧ ∀ k, Y k ∨ X k → W'.heap[k]? = W1.heap[k]?) →
    J [] (fun _ => False) W →
    CallsIn F n P g (#[.func (.yield l) #[] #[]] ++ lb) W fun e W' => (∃ v, e = .returned v) ∧ ∃ X, J xs X W'
/-- What a piece of a round keeps. -/
def Kr (N : Nat) (Y X : Nat → Prop) (w w' : World) : Prop := w.heap.size ≤ w'.heap.size ∧ ∀ k, Y k ∨ X k ∨ k = N ∨ k = N + 1 → w'.heap[k]? = w.heap[k]?
theorem wpIn_range_hands {g : Operand} {ps : Array Tmp} {assign body : Code} {Q : Exit → Act → World → Prop} {a : Act} {w : World}
    (hro : F.round = none) (h1 : 1 ≤ n) {gf : Nat} {lb : Array Value} (hg : a.eval g = .func (.func gf) #[] lb) (hFg : F.fn gf) (eg : ∀ args w, (callFunc gf args).run P w = .ok (.enter gf args) w)
    {encs : α → Array Value} {Y : Nat → Prop} {xs : List α} (hseq : Hands F (n - 1) P gf lb encs Y xs w) (hps : ∀ x, (encs x).size = ps.size) (hY : ∀ k, Y k → k < w.heap.size)
    (I : List α → (Nat → Prop) → World → Prop) (hI : Stays I) (hput : ∀ s X A o, I s X A → w.heap.size + 1 < A.heap.size → I s X (A.putObj (w.heap.size + 1) o))
    (h0 : ∀ W1, Below w.heap.size w W1 → I [] (fun _ => False) W1)
    (Ax : α → Act → World → Prop) (hAx : ∀ x a' A o, Ax x a' A → w.heap.size + 1 < A.heap.size → Ax x a' (A.putObj (w.heap.size + 1) o))
    (hassign : ∀ (l : Nat) (pre : List α) (x : α) (X : Nat → Prop) (W : World) (K : Act → World → Prop), I pre X W → w.heap.size + 1 < W.heap.size → (∀ k, X k → w.heap.size + 1 < k ∧ k < W.heap.size) → (∀ a' W', Kr w.heap.size Y X W W' → I pre X W' → Ax x a' W' → K a' W') →
      assign.wpIn (F.inRound l) (n - 1 - 1) P (Exit.then K (fun _ _ _ => False)) { tmps := (ps.zip (encs x)).foldl (fun t (p, v) => t.setIfInBounds p v) a.tmps, defers := [] } W)
    (hbody : ∀ (l : Nat) (pre : List α) (x : α) (X : Nat → Prop) (a' : Act) (W : World), I pre X W → Ax x a' W → pre ++ [x] <+: xs → w.heap.size + 1 < W.heap.size → (∀ k, X k → w.heap.size + 1 < k ∧ k < W.heap.size) →
      body.wpIn (F.inRound l) (n - 1 - 1) P (fun e _ W' => e = .normal ∧ I (pre ++ [x]) X W' ∧ Kr w.heap.size Y X W W') a' W)
    (hdone : ∀ (X : Nat → Prop) (W : World), I xs X W → W.heap[w.heap.size]? = some (.deferred (some [])) → Q .normal { a with defers := { target := .collected w.heap.size, args := #[] } :: a.defers } W) :
    (Code.rangeFunc g ps assign body).wpIn F n P Q a w := by
  refine wpIn_rangeFunc fun fn hfn => ?_
  rw [hro]
  obtain ⟨N, hN⟩ : ∃ N, w.heap.size = N := ⟨_, rfl⟩
  obtain ⟨rec, hrec⟩ : ∃ rec : LoopState → Option Code → Loop, rec = fun st pe => { state := st, pending := pe, fn, tmps := a.tmps, params := ps, assign, body, defers := N } := ⟨_, rfl⟩
  obtain ⟨V, hV⟩ : ∃ V, (w.alloc (.deferred (some []))).alloc (.loop (rec .ready none)) = V := ⟨_, rfl⟩
  have hbV : Below N w V := by rw [← hV, ← hN]; exact ((Below.refl _ w).alloc (Nat.le_refl _) _).alloc (by simp) _
  have hVs : V.heap.size = N + 2 := by rw [← hV]; simp [hN]
  have hVl : V.heap[N + 1]? = some (.loop (rec .ready none)) := by
    rw [← hV, ← hN]; have := World.alloc_heap_new (w.alloc (.deferred (some []))) (.loop (rec .ready none)); rwa [World.size_alloc] at this
  have hVd : V.heap[N]? = some (.deferred (some [])) := by
    rw [← hV, ← hN]; exact (Below.heap_alloc _ _ _ (by simp)).trans (World.alloc_heap_new w _)
  refine ⟨N + 1, [{ target := .collected N, args := #[] }], V, { target := .fn (.func gf) lb, args := #[.func (.yield (N + 1)) #[] #[]] }, V, gf, #[.func (.yield (N + 1)) #[] #[]] ++ lb, V, ?_, ?_, ?_, ?_, fun _ => h1, ?_⟩
  · rw [← hV, hrec, ← hN]; exact run_enterLoop_outer _ _ _ _ _
  · simp only [resolve, hg]
    simp [go_sem]
  · intro f' hf'; simp [Target.leads] at hf'; subst hf'; exact hFg
  · simp [invoke, go_sem, eg]
  · have lt_of : ∀ {A : World} {k : Nat} {o : Obj}, A.heap[k]? = some o → k < A.heap.size := fun h => (Array.getElem?_eq_some_iff.1 h).1
    refine (hseq (N + 1) (fun pre X A => I pre X A ∧ A.heap[N + 1]? = some (.loop (rec .ready none)) ∧ A.heap[N]? = some (.deferred (some [])) ∧ ∀ k, X k → N + 1 < k ∧ k < A.heap.size) V (by rw [hN]; exact hbV) ⟨?_, ?_⟩ ?_ ⟨h0 V (by rw [hN]; exact hbV), hVl, hVd, fun k h => h.elim⟩).mono ?_
    · rintro s X A B ⟨i, hl, hd, hx⟩ hb
      have hs := lt_of hl
      refine ⟨hI.new s X A B i hb, (hb.block _ hs).trans hl, (hb.block _ (by omega)).trans hd, fun k hk => ?_⟩
      have := hb.size
      rcases hk with h | h
      · have := hx k h; omega
      · omega
    · rintro s X A B r ⟨i, hl, hd, hx⟩ hr hgr
      have hs := lt_of hl
      have hr1 := hx r hr
      refine ⟨hI.own s X A B r i hr hgr, (hgr.block _ hs (fun e => by cases e; omega)).trans hl, (hgr.block _ (by omega) (fun e => by cases e; omega)).trans hd, fun k hk => ?_⟩
      have := hgr.size
      rcases hk with h | h
      · have := hx k h; omega
      · omega
    · rintro pre x X A hpre ⟨i, hl, hd, hx⟩
      have hs := lt_of hl
      have hy := run_yield (P := P) (args := encs x) hl (by rw [hrec]; exact hps x)
      rw [hrec] at hy
      refine ⟨fn, _, assign, body, hy, roundIn_of_wpIn hfn (hassign _ pre x X A _ i (by omega) (by rw [hN]; exact hx) ?_)⟩
      clear hy
      intro a' B kr1 i1 ax1
      rw [hN] at kr1
      have hl1 := (kr1.2 (N + 1) (.inr (.inr (.inr rfl)))).trans hl
      have hd1 := (kr1.2 N (.inr (.inr (.inl rfl)))).trans hd
      have hs1 := lt_of hl1
      refine ⟨_, run_beginRound hl1 (by rw [hrec]), ?_⟩
      obtain ⟨bz, hbz⟩ : ∃ bz : Loop, { rec .ready none with state := .busy } = bz := ⟨_, rfl⟩
      rw [hbz]
      obtain ⟨C, hC⟩ : ∃ C, B.putObj (N + 1) (.loop bz) = C := ⟨_, rfl⟩
      have hCs : C.heap.size = B.heap.size := by rw [← hC]; simp
      have hl2 : C.heap[N + 1]? = some (.loop bz) := by rw [← hC]; exact World.putObj_heap_same hs1
      have ho2 : ∀ k, k ≠ N + 1 → C.heap[k]? = B.heap[k]? := fun k hk => by rw [← hC]; exact World.putObj_heap_other hk
      have i2 : I pre X C := by rw [← hC, ← hN]; exact hput _ _ _ _ i1 (by rw [hN]; exact hs1)
      have ax2 : Ax x a' C := by rw [← hC, ← hN]; exact hAx _ _ _ _ ax1 (by rw [hN]; exact hs1)
      have hx2 : ∀ k, X k → N + 1 < k ∧ k < C.heap.size := fun k hk => by have := hx k hk; have := kr1.1; omega
      rw [hC]
      refine wpIn_mono (hbody _ pre x X a' C i2 ax2 hpre (by omega) (by rw [hN]; exact hx2)) ?_
      rintro e a3 D ⟨rfl, i3, kr2⟩
      rw [hN] at kr2
      have hl3 := (kr2.2 (N + 1) (.inr (.inr (.inr rfl)))).trans hl2
      have hd3 := (kr2.2 N (.inr (.inr (.inl rfl)))).trans ((ho2 N (by omega)).trans hd1)
      have hs3 := lt_of hl3
      have hr := run_endRound (P := P) none hl3
      have hbk : ({ bz with state := (if (none : Option Code).isNone then LoopState.ready else LoopState.done), pending := none } : Loop) = rec .ready none := by rw [← hbz, hrec]; rfl
      rw [hbk] at hr
      refine ⟨_, _, hr, rfl, ⟨by rw [← hN]; exact hput _ _ _ _ i3 (by rw [hN]; exact hs3), World.putObj_heap_same hs3, (World.putObj_heap_other (by omega)).trans hd3, fun k hk => ?_⟩, ?_, fun k hk => ?_⟩
      · have := hx k hk; have := kr1.1; have := kr2.1; simp; omega
      · have := kr1.1; have := kr2.1; simp; omega
      · have hne : k ≠ N + 1 := by
          rcases hk with h | h
          · have := hY k h; omega
          · have := hx k h; omega
        have e1 : (D.putObj (N + 1) (.loop (rec .ready none))).heap[k]? = D.heap[k]? := World.putObj_heap_other hne
        have hk' : Y k ∨ X k ∨ k = N ∨ k = N + 1 := by rcases hk with h | h; exact .inl h; exact .inr (.inl h)
        exact e1.trans ((kr2.2 k hk').trans ((ho2 k hne).trans (kr1.2 k hk')))
    · rintro e A ⟨⟨v, rfl⟩, X, i, hl, hd, hx⟩
      have hs := lt_of hl
      refine ⟨none, _, by have := run_endLoop (P := P) hl (by rw [hrec]; simp); rw [hrec] at this; exact this, ?_⟩
      rw [← hN]
      refine hdone X _ (hput _ _ _ _ i (by rw [hN]; exact hs)) ?_
      rw [hN]
      exact (World.putObj_heap_other (by omega)).trans hd
end
end Go.Proofs.Ytmgdpchjimlmeaa
