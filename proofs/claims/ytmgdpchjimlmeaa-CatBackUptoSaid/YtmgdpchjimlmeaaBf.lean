/-
  The pager as one word (Pg), what a deed on it may turn (Cz); which pages are handed out; what a text's pages hold.
-/
import Derived.Test.YtmgdpchjimlmeaaBc
namespace Go.Proofs.Ytmgdpchjimlmeaa
open Go.RowKit
set_option linter.unusedSimpArgs false
set_option linter.unusedVariables false
/-- The least page that is not taken. -/
def al (U : Nat → Bool) (n : Nat) (F : List Nat) : Option Nat := (List.range n).find? fun x => !taken U F x
/-- So many pages, as far as there are. -/
def als (U : Nat → Bool) (n : Nat) (F : List Nat) : Nat → List Nat
  | 0 => []
  | k + 1 => match al U n (F ++ als U n F k) with
    | none => als U n F k
    | some x => als U n F k ++ [x]
theorem al_some {U : Nat → Bool} {n x : Nat} {F : List Nat} (hx : x < n) (h1 : ∀ i, i < x → taken U F i = true) (h2 : taken U F x = false) : al U n F = some x := by
  unfold al
  rw [List.find?_range_eq_some]
  exact ⟨by simp [h2], List.mem_range.2 hx, fun j hj => by simp [h1 j hj]⟩
theorem al_none {U : Nat → Bool} {n : Nat} {F : List Nat} (h1 : ∀ i, i < n → taken U F i = true) : al U n F = none := by
  unfold al
  rw [List.find?_eq_none]
  intro x hx
  rw [List.mem_range] at hx
  simp [h1 x hx]
theorem al_is {U : Nat → Bool} {n x : Nat} {F : List Nat} (h : al U n F = some x) : x < n ∧ taken U F x = false ∧ ∀ i, i < x → taken U F i = true := by
  unfold al at h
  rw [List.find?_range_eq_some] at h
  obtain ⟨h1, h2, h3⟩ := h
  exact ⟨List.mem_range.1 h2, by simpa using h1, fun i hi => by simpa using h3 i hi⟩
theorem als_le (U : Nat → Bool) (n : Nat) (F : List Nat) (k : Nat) : (als U n F k).length ≤ k := by
  induction k with
  | zero => simp [als]
  | succ k ih =>
    unfold als
    split
    · omega
    · simp; omega
theorem als_stuck {U : Nat → Bool} {n : Nat} {F : List Nat} {i : Nat} (h : al U n (F ++ als U n F i) = none) : ∀ d, als U n F (i + d) = als U n F i := by
  intro d
  induction d with
  | zero => rfl
  | succ d ih =>
    show als U n F (i + d + 1) = _
    have e : als U n F (i + d + 1) = match al U n (F ++ als U n F (i + d)) with | none => als U n F (i + d) | some x => als U n F (i + d) ++ [x] := rfl
    rw [e, ih, h]
theorem als_next {U : Nat → Bool} {n x : Nat} {F : List Nat} {i : Nat} (h : al U n (F ++ als U n F i) = some x) : als U n F (i + 1) = als U n F i ++ [x] := by
  have e : als U n F (i + 1) = match al U n (F ++ als U n F i) with | none => als U n F i | some x => als U n F i ++ [x] := rfl
  rw [e, h]
theorem als_new (U : Nat → Bool) (n : Nat) (F : List Nat) (k : Nat) : ∀ x ∈ als U n F k, x < n ∧ U x = false ∧ F.contains x = false := by
  induction k with
  | zero => intro x hx; simp [als] at hx
  | succ k ih =>
    intro x hx
    unfold als at hx
    split at hx
    · exact ih x hx
    · rename_i y hy
      rcases List.mem_append.1 hx with h | h
      · exact ih x h
      · obtain rfl := List.mem_singleton.1 h
        obtain ⟨h1, h2, _⟩ := al_is hy
        unfold taken at h2
        simp only [Bool.or_eq_false_iff] at h2
        refine ⟨h1, h2.1, ?_⟩
        have := h2.2
        simp only [List.contains_eq_mem, decide_eq_false_iff_not, List.mem_append, not_or] at this ⊢
        exact this.1
theorem als_nodup (U : Nat → Bool) (n : Nat) (F : List Nat) (k : Nat) : (als U n F k).Nodup := by
  induction k with
  | zero => simp [als]
  | succ k ih =>
    unfold als
    split
    · exact ih
    · rename_i y hy
      obtain ⟨h1, h2, _⟩ := al_is hy
      unfold taken at h2
      simp only [Bool.or_eq_false_iff] at h2
      have := h2.2
      simp only [List.contains_eq_mem, decide_eq_false_iff_not, List.mem_append, not_or] at this
      rw [List.nodup_append]
      exact ⟨ih, by simp, fun a ha b hb e => by obtain rfl := List.mem_singleton.1 hb; exact this.2 (e ▸ ha)⟩
/-- A pager in box p over the disk in box g: which pages are used (U), fresh (F), what is on the disk (S), and waits (C). -/
structure Pg (B L p g gs bm k0 : Nat) (T R : Int) (U : Nat → Bool) (F : List Nat) (S : List (List UInt8)) (C : List Wt) (f : Value) (w : World) : Prop where
  pb : Pb w p T R (.map (some bm)) g f
  us : Us w bm k0 U
  fr : w.ownsRow L 3 1 f F.length (F.map nn)
  dk : ∃ v, Dk B w g gs v S C
  hL : L ≤ w.heap.size
/-- What a deed on a pager may turn: p, the disk's boxes, rows of waiting writes, the row of fresh pages. -/
structure Cz (B p g gs : Nat) (f f' : Value) (w w' : World) : Prop where
  os : w'.os = w.os
  tape : w'.tape = w.tape
  output : w'.output = w.output
  size : w.heap.size ≤ w'.heap.size
  block : ∀ k, k < B → k < w.heap.size → k ≠ p → k ≠ g → k ≠ gs → some k ≠ f.ownBlock → w'.heap[k]? = w.heap[k]?
  typ : ∀ k, k < w.heap.size → k ≠ p → k ≠ g → k ≠ gs → some k ≠ f.ownBlock → (∀ cs fr, w.heap[k]? ≠ some (.cells cs 107 fr)) → w'.heap[k]? = w.heap[k]?
  own : ∀ k, f'.ownBlock = some k → f.ownBlock = some k ∨ w.heap.size ≤ k
theorem Cz.refl (B p g gs : Nat) (f : Value) (w : World) : Cz B p g gs f f w w := ⟨rfl, rfl, rfl, Nat.le_refl _, fun _ _ _ _ _ _ _ => rfl, fun _ _ _ _ _ _ _ => rfl, fun _ h => .inl h⟩
theorem Cz.trans {B p g gs : Nat} {f f' f'' : Value} {a b c : World} (h : Cz B p g gs f f' a b) (k : Cz B p g gs f' f'' b c) : Cz B p g gs f f'' a c := by
  have ne : ∀ j, j < a.heap.size → some j ≠ f.ownBlock → some j ≠ f'.ownBlock := fun j hj h1 e => by
    rcases h.own j e.symm with a | a
    · exact h1 a.symm
    · omega
  refine ⟨k.os.trans h.os, k.tape.trans h.tape, k.output.trans h.output, Nat.le_trans h.size k.size, fun j h0 h1 h2 h3 h4 h5 => ?_, fun j h1 h2 h3 h4 h5 h6 => ?_, fun j hj => ?_⟩
  · exact (k.block j h0 (Nat.lt_of_lt_of_le h1 h.size) h2 h3 h4 (ne j h1 h5)).trans (h.block j h0 h1 h2 h3 h4 h5)
  · have e := h.typ j h1 h2 h3 h4 h5 h6
    exact (k.typ j (Nat.lt_of_lt_of_le h1 h.size) h2 h3 h4 (ne j h1 h5) (by rw [e]; exact h6)).trans e
  · rcases k.own j hj with a | a
    · exact h.own j a
    · exact .inr (Nat.le_trans h.size a)
theorem Cz.of_below {B p g gs : Nat} {f : Value} {a b : World} (h : Below a.heap.size a b) : Cz B p g gs f f a b := ⟨h.os, h.tape, h.output, h.size, fun k _ h1 _ _ _ _ => h.block k h1, fun k h1 _ _ _ _ _ => h.block k h1, fun _ h => .inl h⟩
theorem Cz.of_ca {B p g gs : Nat} {f f' : Value} {a b : World} (h : Ca p f f' a b) : Cz B p g gs f f' a b := ⟨h.os, h.tape, h.output, h.size, fun k _ h1 h2 _ _ h5 => h.block k h1 h2 h5, fun k h1 h2 _ _ h5 _ => h.block k h1 h2 h5, h.own⟩
theorem Cz.of_ch {B p g gs : Nat} {f : Value} {a b : World} (h : Ch B g gs a b) : Cz B p g gs f f a b := ⟨h.os, h.tape, h.output, h.size, fun k h0 _ _ h3 h4 _ => h.block k h0 h3 h4, fun k h1 _ h3 h4 _ h6 => h.typ k h1 h3 h4 h6, fun _ h => .inl h⟩
/-- Behind an append to a row of the caller's own, that is none of the pager's. -/
theorem Cz.of_set {B p g gs i : Nat} {f f' u : Value} {a : World} (h : ∀ k, f'.ownBlock = some k → f.ownBlock = some k) : Cz B p g gs f f' a (a.setCell ⟨p, i, none⟩ u) := ⟨rfl, rfl, rfl, by simp [World.setCell], fun k _ _ h2 _ _ _ => Below.heap_setCell _ _ _ _ h2, fun k _ h2 _ _ _ _ => Below.heap_setCell _ _ _ _ h2, fun k hk => .inl (h k hk)⟩
theorem Cz.below {B N p g gs : Nat} {f f' : Value} {w0 a b : World} (h : Cz B p g gs f f' a b) (hb : Below N w0 a) (hN : N ≤ a.heap.size) (h0 : N ≤ B) (h1 : N ≤ p) (h2 : N ≤ g) (h3 : N ≤ gs) (h4 : ∀ k, f.ownBlock = some k → N ≤ k) : Below N w0 b :=
  hb.trans ⟨h.os, h.tape, h.output, h.size, fun k hk => h.block k (by omega) (by omega) (by omega) (by omega) (by omega) (fun e => by have := h4 k e.symm; omega)⟩
/-- A row of the caller's own stays. -/
theorem Cz.keep {B p g gs k : Nat} {f f' : Value} {w w' : World} (h : Cz B p g gs f f' w w') {cs : Array Value} {T : TypeId} {fr : Nat × Nat} (hr : w.heap[k]? = some (.cells cs T fr)) (hT : T ≠ 107) (h0 : k ≠ p) (h1 : k ≠ g) (h2 : k ≠ gs) (h3 : some k ≠ f.ownBlock) : w'.heap[k]? = some (.cells cs T fr) :=
  (h.typ k (heap_lt hr) h0 h1 h2 h3 (fun c2 f2 e => by rw [hr] at e; injection e with e; injection e with _ e; exact hT e)).trans hr
theorem Pg.below {B L p g gs bm k0 : Nat} {T R : Int} {U : Nat → Bool} {F : List Nat} {S : List (List UInt8)} {C : List Wt} {f : Value} {w w' : World} (h : Pg B L p g gs bm k0 T R U F S C f w) (hb : Below w.heap.size w w') : Pg B L p g gs bm k0 T R U F S C f w' := by
  obtain ⟨v, hd⟩ := h.dk
  exact ⟨(hb.block p (heap_lt h.pb)).trans h.pb, h.us.below hb, own_below h.fr hb, ⟨v, hd.below hb⟩, Nat.le_trans h.hL hb.size⟩
theorem Cz.later {B p g gs : Nat} {f f' : Value} {w a b : World} (h : Cz B p g gs f f' w a) (hb : Below w.heap.size a b) : Cz B p g gs f f' w b :=
  ⟨hb.os.trans h.os, hb.tape.trans h.tape, hb.output.trans h.output, Nat.le_trans h.size hb.size, fun k h0 h1 h2 h3 h4 h5 => (hb.block k h1).trans (h.block k h0 h1 h2 h3 h4 h5), fun k h1 h2 h3 h4 h5 h6 => (hb.block k h1).trans (h.typ k h1 h2 h3 h4 h5 h6), h.own⟩
theorem Pg.grown {B L p g gs bm k0 : Nat} {T R : Int} {U : Nat → Bool} {F : List Nat} {S : List (List UInt8)} {C : List Wt} {f : Value} {w w' : World} {r : Option Nat} (h : Pg B L p g gs bm k0 T R U F S C f w) (hg : w.grownBy w' r) (hr : ∀ b, r = some b → (∃ cs fr, w.heap[b]? = some (.cells cs 3 fr)) ∧ some b ≠ f.ownBlock) : Pg B L p g gs bm k0 T R U F S C f w' := by
  obtain ⟨v, hd⟩ := h.dk
  refine ⟨(hg.block p (heap_lt h.pb) (fun e => ?_)).trans h.pb, h.us.same (hg.block bm h.us.lt (fun e => ?_)), h.fr.kept hg ?_, ⟨v, hd.grown hg (fun b e => ?_)⟩, Nat.le_trans h.hL hg.size⟩
  · obtain ⟨⟨cs, fr, h1⟩, _⟩ := hr p e.symm
    exact ne_rows h1 h.pb (by decide) rfl
  · obtain ⟨⟨cs, fr, h1⟩, _⟩ := hr bm e.symm
    obtain ⟨es, cl, hm⟩ := h.us.isMap
    exact ne_map hm h1 rfl
  · rcases hf : f.ownBlock with _ | b
    · exact .inl rfl
    · exact .inr fun e => (hr b e.symm).2 hf.symm
  · obtain ⟨⟨cs, fr, h1⟩, _⟩ := hr b e.symm
    exact ⟨cs, _, fr, h1, by decide, by decide, by decide⟩
/-- The row of fresh pages is below the heap's end, and none of a box of another type. -/
theorem Pg.row {B L p g gs bm k0 : Nat} {T R : Int} {U : Nat → Bool} {F : List Nat} {S : List (List UInt8)} {C : List Wt} {f : Value} {w : World} (h : Pg B L p g gs bm k0 T R U F S C f w) {k : Nat} (e : f.ownBlock = some k) : L ≤ k ∧ ∃ cs fr, w.heap[k]? = some (.cells cs 3 fr) := by
  obtain ⟨cs, fr, h3⟩ := Lib.ownsRow_kind h.fr k e
  exact ⟨own_geB h.fr e, cs, fr, h3⟩
/-- What a pager's deeds turn is none of a row that is the caller's. -/
theorem Pg.ne {B L p g gs bm k0 : Nat} {T R : Int} {U : Nat → Bool} {F : List Nat} {S : List (List UInt8)} {C : List Wt} {f : Value} {w : World} (h : Pg B L p g gs bm k0 T R U F S C f w) {k : Nat} {cs : Array Value} {T1 : TypeId} {fr : Nat × Nat} (hr : w.heap[k]? = some (.cells cs T1 fr)) (h1 : T1 ≠ 65) (h2 : T1 ≠ 58) (h3 : T1 ≠ 105) : k ≠ p ∧ k ≠ g ∧ k ≠ gs := by
  obtain ⟨v, hd⟩ := h.dk
  exact ⟨ne_rows hr h.pb h1, ne_rows hr hd.hg h2, ne_rows hr hd.hs h3⟩
/-- The text of page i of a text l over the pages A. -/
def txt (A : List Nat) (l : List UInt8) (i : Nat) : List UInt8 := lnk ((A[i + 1]?).getD 0) ++ (l.drop (118 * i)).take 118
def pwr (x : Nat) (t : List UInt8) : List Wt := [(2 * x, (sealL 2 t).take 64), (2 * x + 1, (sealL 2 t).drop 64)]
/-- What is written of a text's first pages. -/
def wrs (A : List Nat) (l : List UInt8) (i : Nat) : List Wt := (List.range i).flatMap fun j => pwr ((A[j]?).getD 0) (txt A l j)
theorem wrs_succ (A : List Nat) (l : List UInt8) (i : Nat) : wrs A l (i + 1) = wrs A l i ++ pwr ((A[i]?).getD 0) (txt A l i) := by
  unfold wrs
  rw [List.range_succ, List.flatMap_append]
  simp
theorem wrs_len (A : List Nat) (l : List UInt8) (i : Nat) : (wrs A l i).length = 2 * i := by
  induction i with
  | zero => rfl
  | succ i ih => rw [wrs_succ, List.length_append, ih]; simp [pwr]; omega
theorem txt_len (A : List Nat) (l : List UInt8) (i : Nat) : (txt A l i).length = 2 + min 118 (l.length - 118 * i) := by
  unfold txt lnk
  simp
  omega
end Go.Proofs.Ytmgdpchjimlmeaa
