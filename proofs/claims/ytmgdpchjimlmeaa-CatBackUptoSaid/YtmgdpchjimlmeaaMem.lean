/-
  Words for memory: a slice of digits in a world; it is kept by whatever leaves older memory alone.
-/
import Derived.Test.YtmgdpchjimlmeaaProg
import Derived.Test.YtmgdpchjimlmeaaNum
import Derived.WalkKit
import Derived.WalkSpells
import Derived.WalkLawsBesides
import Derived.Outline
import Derived.Lib.Hide
import Derived.Deep.QuietTactic
import Derived.BigQuiet
import Derived.BigGuardPart
import Derived.StillTailTactics
import Derived.Deep.Draws
namespace Go.Proofs.Ytmgdpchjimlmeaa
open Go.RowKit
/-- The slice '.slice A xs.length c' holds the digits xs. -/
def Dg (w : World) (A : Option Addr) (c : Nat) (xs : List Nat) : Prop :=
  xs.length ≤ c ∧ ok32 xs ∧ (0 < xs.length → ∃ b off, A = some ⟨b, off, none⟩ ∧ b < w.heap.size ∧ ∀ j, j < xs.length → w.cell? ⟨b, off + j, none⟩ = some (.int .u32 (xs[j]?.getD 0 : Nat)))
theorem getD_lt {xs : List Nat} (h : ok32 xs) (j : Nat) : xs[j]?.getD 0 < 4294967296 := by
  rcases Nat.lt_or_ge j xs.length with hj | hj
  · rw [List.getElem?_eq_getElem hj]; exact h _ (List.getElem_mem hj)
  · rw [List.getElem?_eq_none hj]; simp
section
variable {w w' : World} {A : Option Addr} {c : Nat} {xs : List Nat}
theorem Dg.keep (h : Dg w A c xs) (hs : w.heap.size ≤ w'.heap.size) (hk : ∀ b o, b < w.heap.size → w'.cell? ⟨b, o, none⟩ = w.cell? ⟨b, o, none⟩) : Dg w' A c xs :=
  ⟨h.1, h.2.1, fun h0 => by
    obtain ⟨b, off, e, hb, hc⟩ := h.2.2 h0
    exact ⟨b, off, e, by omega, fun j hj => (hk _ _ hb).trans (hc j hj)⟩⟩
theorem Dg.below (h : Dg w A c xs) (hb : Below w.heap.size w w') : Dg w' A c xs :=
  h.keep hb.size fun b o hlt => hb.cell (p := ⟨b, o, none⟩) hlt
theorem Dg.drew (h : Dg w A c xs) : Dg w.drew A c xs := h
theorem Dg.drewN (h : Dg w A c xs) (k : Nat) : Dg (w.drewN k) A c xs := h
theorem Dg.nil_ (A : Option Addr) (c : Nat) : Dg w A c [] := ⟨Nat.zero_le _, fun _ hx => by simp at hx, fun h => absurd h (by simp)⟩
end
theorem below_drewN {B : Nat} {a w : World} (h : Below B a w) (n : Nat) : Below B a (w.drewN n) := ⟨h.os, h.tape, h.output, h.size, h.block⟩
end Go.Proofs.Ytmgdpchjimlmeaa
