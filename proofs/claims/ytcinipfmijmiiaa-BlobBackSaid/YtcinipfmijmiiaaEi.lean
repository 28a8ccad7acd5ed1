/-
  Crash.
-/
import Derived.Test.YtcinipfmijmiiaaEh
namespace Go.Proofs.Ytcinipfmijmiiaa
open Go.RowKit
set_option linter.unusedSimpArgs false
set_option linter.unusedVariables false
/-- One write, when the power goes. -/
def cstep (ks : List Int) (torn : Int) (q : Nat) (S : List (List UInt8)) (k : Nat) (c : Wt) : List (List UInt8) :=
  if (k : Int) = torn then put S c.1 c.2 q else if k < ks.length ∧ (ks[k]?.getD 0).tmod 2 ≠ 0 then put S c.1 c.2 64 else S
def crash (ks : List Int) (torn : Int) (q : Nat) (S : List (List UInt8)) (C : List Wt) : List (List UInt8) := C.zipIdx.foldl (fun S p => cstep ks torn q S p.2 p.1) S
theorem crash_take {ks : List Int} {torn : Int} {q : Nat} {S : List (List UInt8)} {C : List Wt} {k : Nat} (h : k < C.length) : crash ks torn q S (C.take (k + 1)) = cstep ks torn q (crash ks torn q S (C.take k)) k C[k] := by
  unfold crash
  rw [← List.take_append_getElem h, List.zipIdx_append, List.foldl_append, List.length_take, Nat.min_eq_left (by omega)]
  simp
theorem cstep_len (ks : List Int) (torn : Int) (q : Nat) (S : List (List UInt8)) (k : Nat) (c : Wt) : (cstep ks torn q S k c).length = S.length := by
  unfold cstep
  split
  · rw [put_len]
  · split
    · rw [put_len]
    · rfl
theorem crash_len (ks : List Int) (torn : Int) (q : Nat) (S : List (List UInt8)) (C : List Wt) : (crash ks torn q S C).length = S.length := by
  unfold crash
  generalize C.zipIdx = l
  induction l generalizing S with
  | nil => rfl
  | cons c r ih => rw [List.foldl_cons, ih, cstep_len]
theorem Dk.reset {B g gs : Nat} {v : Value} {S : List (List UInt8)} {C : List Wt} {w : World} (h : Dk B w g gs v S C) : Dk B (((w.setCell ⟨g, 1, none⟩ (.slice none 0 0)).setCell ⟨g, 2, none⟩ (.int .i64 (-1))).setCell ⟨g, 3, none⟩ (.bool false)) g gs (.slice none 0 0) S [] ∧ Ch B g gs w (((w.setCell ⟨g, 1, none⟩ (.slice none 0 0)).setCell ⟨g, 2, none⟩ (.int .i64 (-1))).setCell ⟨g, 3, none⟩ (.bool false)) := by
  obtain ⟨a, b⟩ := Ch.setNil h
  refine ⟨⟨?_, ?_, World.ownsRow_nil _ _ _ _, h.gB, h.sB, h.ne, ?_, h.s64, fun c hc => by simp at hc, fun c hc => by simp at hc, h.n1, h.n2⟩, (b.setCell 2 _).setCell 3 _⟩
  · have e1 := heap_setCell_same _ _ 2 _ _ (.int .i64 (-1)) a.hg
    have e2 := heap_setCell_same _ _ 3 _ _ (.bool false) e1
    simpa using e2
  · rw [heap_setCell_other _ _ _ _ (fun e => h.ne e.symm), heap_setCell_other _ _ _ _ (fun e => h.ne e.symm)]; exact a.hs
  · have := a.hB; simpa [World.setCell] using this

end Go.Proofs.Ytcinipfmijmiiaa
