/-
  Versions: plain words, and a slice of them in a world.
-/
import Derived.Test.YtlfjopjfolbmiaaProg
import Derived.WalkKit
import Derived.WalkSpells
import Derived.WalkLawsBesides
import Derived.Outline
import Derived.Lib.Hide
import Derived.Lib.Strings
import Derived.Laws.IdiomStrings
import Derived.Laws.BitsAllLaws
import Derived.Laws.BitsLemmas
import Derived.Laws.Rows
import Derived.Laws.NewBlocks
import Derived.Laws.OwnMore
import Derived.IntWalk
import Derived.Deep.QuietTactic
import Derived.BigQuiet
import Derived.StillTailTactics
import Derived.Deep.RegionHeld3
import Derived.Deep.OwnRows
import Derived.Deep.DeepCutAuto
import Derived.Deep.LoopGhost
namespace Go.Proofs.Ytlfjopjfolbmiaa
open Go.RowKit
def rootB (n : Int) : Bool := n == 0 || (decide (2 ≤ n) && decide (n ≤ 511))
def chainB (next last : Int) : List (Int × Int) → Bool
  | [] => true
  | v :: r => decide (last < v.1) && decide (v.1 < next) && rootB v.2 && chainB next v.1 r
def rightB (next : Int) (vs : List (Int × Int)) : Bool := decide (1 ≤ next) && decide (next ≤ 16777216) && decide (vs.length ≤ 12) && chainB next 0 vs
def at2 (vs : List (Int × Int)) (j : Nat) : Int × Int := vs[j]?.getD (0, 0)
theorem drop_at {vs : List (Int × Int)} {k : Nat} (h : k < vs.length) : vs.drop k = at2 vs k :: vs.drop (k + 1) := by
  unfold at2
  rw [List.drop_eq_getElem_cons h, List.getElem?_eq_getElem h]
  rfl
/-- The slice '.slice A vs.length c' holds the versions vs. -/
def Vs (w : World) (A : Option Addr) (c : Nat) (vs : List (Int × Int)) : Prop :=
  vs.length ≤ c ∧ (0 < vs.length → ∃ b off, A = some ⟨b, off, none⟩ ∧ b < w.heap.size ∧ ∀ j, j < vs.length → w.cell? ⟨b, off + j * 2, none⟩ = some (.int .i64 (at2 vs j).1) ∧ w.cell? ⟨b, off + j * 2 + 1, none⟩ = some (.int .i64 (at2 vs j).2))
section
variable {w w' : World} {A : Option Addr} {c : Nat} {vs : List (Int × Int)}
theorem Vs.below (h : Vs w A c vs) (hb : Below w.heap.size w w') : Vs w' A c vs :=
  ⟨h.1, fun h0 => by
    obtain ⟨b, off, e, hlt, hc⟩ := h.2 h0
    exact ⟨b, off, e, Nat.lt_of_lt_of_le hlt hb.size, fun j hj => ⟨(hb.cell (p := ⟨b, _, none⟩) hlt).trans (hc j hj).1, (hb.cell (p := ⟨b, _, none⟩) hlt).trans (hc j hj).2⟩⟩⟩
theorem Vs.nil_ (A : Option Addr) (c : Nat) : Vs w A c [] := ⟨Nat.zero_le _, fun h => absurd h (by simp)⟩
end
theorem bcell {W w1 : World} (hb : Below W.heap.size W w1) : (∀ b o, b < W.heap.size → w1.cell? ⟨b, o, none⟩ = W.cell? ⟨b, o, none⟩) :=
  fun b o h => hb.cell (p := ⟨b, o, none⟩) h
theorem bd0 (W : World) : Below W.heap.size W W.drew := ⟨rfl, rfl, rfl, Nat.le_refl _, fun _ _ => rfl⟩
theorem bda (W : World) (o : Obj) : Below W.heap.size W (W.alloc o) := (Below.refl _ _).alloc (Nat.le_refl _) _
theorem below_drewN {B : Nat} {a w : World} (h : Below B a w) (n : Nat) : Below B a (w.drewN n) := ⟨h.os, h.tape, h.output, h.size, h.block⟩
theorem below_drew {B : Nat} {a w : World} (h : Below B a w) : Below B a w.drew := ⟨h.os, h.tape, h.output, h.size, h.block⟩
theorem bon {a b c : World} (h : Below a.heap.size a b) (k : Below b.heap.size b c) : Below a.heap.size a c := h.trans (k.mono h.size)
theorem heap_lt {w : World} {g : Nat} {o : Obj} (h : w.heap[g]? = some o) : g < w.heap.size := by
  rcases Nat.lt_or_ge g w.heap.size with h' | h'
  · exact h'
  · rw [Array.getElem?_eq_none h'] at h; cases h
theorem row_on {w w' : World} {g : Nat} {o : Obj} (h : w.heap[g]? = some o) (hb : Below w.heap.size w w') : w'.heap[g]? = some o := (hb.block g (heap_lt h)).trans h
theorem row_c {w : World} {g i : Nat} {cs : Array Value} {T : TypeId} {fr : Nat × Nat} {v : Value} (h : w.heap[g]? = some (.cells cs T fr)) (hv : cs[i]? = some v) : w.cell? ⟨g, i, none⟩ = some v := by
  rw [cell_of_row _ _ _ _ _ _ h]; exact hv
theorem ret_b {a b : Bool} (h : a = b) : Ending.returned (.bool a) = .returned (.bool b) := by rw [h]
set_option maxHeartbeats 400000 in
theorem rooted_any (n : Int) (w : World) : Calls Try.prog 28 #[.int .i64 n] w fun e w' => e = .returned (.bool (rootB n)) ∧ w = w' := by
  unfold rootB
  by_cases h0 : n = 0
  · subst h0
    go_enter Try.func28, Try.ntmps28
    go_wp2
    go_ret
    exact ⟨rfl, rfl⟩
  · have d0 : (n == 0) = false := by simpa using h0
    rw [d0]
    by_cases h2 : 2 ≤ n
    · have d2 : decide (2 ≤ n) = true := decide_eq_true h2
      rw [d2]
      cases d3 : decide (n ≤ 511)
      all_goals
        go_enter Try.func28, Try.ntmps28
        go_wp2
        go_ret
        exact ⟨rfl, rfl⟩
    · have d2 : decide (2 ≤ n) = false := decide_eq_false h2
      rw [d2]
      go_enter Try.func28, Try.ntmps28
      go_wp2
      go_ret
      exact ⟨rfl, rfl⟩
set_option maxHeartbeats 1000000 in
set_option maxRecDepth 100000 in
theorem right_any (next : Int) (A : Option Addr) (c : Nat) (vs : List (Int × Int)) (w : World) (h : Vs w A c vs) (hl : vs.length ≤ 1000000) :
    Calls Try.prog 15 #[.agg #[.int .i64 next, .slice A vs.length c]] w fun e w' => e = .returned (.bool (rightB next vs)) ∧ Below w.heap.size w w' := by
  by_cases hh : 1 ≤ next ∧ next ≤ 16777216 ∧ vs.length ≤ 12
  · obtain ⟨h1, h2, h3⟩ := hh
    have hr : rightB next vs = chainB next 0 vs := by unfold rightB; rw [decide_eq_true h1, decide_eq_true h2, decide_eq_true h3]; rfl
    rw [hr]
    clear hr
    have d1 : decide (next < 1) = false := by simp; omega
    have d2 : decide (16777216 < next) = false := by simp; omega
    have d3 : decide (12 < vs.length) = false := by simp; omega
    have d4 : decide ((12 : Int) < (vs.length : Int)) = false := by simp; omega
    have H := Lib.hid h
    clear h
    have RW := Lib.hid (heap_alloc_new w (.cells #[.int .i64 next, .slice A vs.length c] 24))
    go_enter Try.func15, Try.ntmps15
    go_wp2_with fail
    obtain ⟨W, hW⟩ : ∃ W : World, W = w.alloc (.cells #[.int .i64 next, .slice A vs.length c] 24) := ⟨_, rfl⟩
    rw [← hW] at RW ⊢
    have B1 := Lib.hid (show Below w.heap.size w W by rw [hW]; exact bda _ _)
    clear hW
    go_loopw [3, 23] (fun l i wr => ∃ (k : Nat) (L : Int), k ≤ vs.length ∧ i = .int .i64 k ∧ l = .int .i64 L ∧ Hid (chainB next 0 vs = chainB next L (vs.drop k)) ∧ Hid (Below W.heap.size W wr)) (fun _ i _ => vs.length - (intOf i).toNat)
    case atStart => exact ⟨0, 0, Nat.zero_le _, rfl, rfl, Lib.hid rfl, Lib.hid (Below.refl _ _)⟩
    case round =>
      obtain ⟨k, L, hk, rfl, rfl, hch, hb⟩ := hrel
      by_cases hlt : k < vs.length
      · obtain ⟨b, off, hA, hbl, hcell⟩ := (H.out.below B1.out).2 (by omega)
        have f1 := (hb.out.cell (p := ⟨b, off + k * 2, none⟩) hbl).trans (hcell k hlt).1
        have f2 := (hb.out.cell (p := ⟨b, off + k * 2 + 1, none⟩) hbl).trans (hcell k hlt).2
        have f3 := row_c (row_on RW.out hb.out) (i := 0) rfl
        have s1 : w.heap.size < wr.heap.size := heap_lt (row_on RW.out hb.out)
        have CH := Lib.hid (show chainB next 0 vs = (decide (L < (at2 vs k).1) && decide ((at2 vs k).1 < next) && rootB (at2 vs k).2 && chainB next (at2 vs k).1 (vs.drop (k + 1))) by rw [hch.out, drop_at hlt]; rfl)
        have HLT := Lib.hid hlt
        clear hcell hch
        generalize at2 vs k = v at *
        obtain ⟨n, r⟩ := v
        simp only at f1 f2 CH
        have k0 : (0 : Int) ≤ (k : Int) := by omega
        have k1 : (k : Int) < (vs.length : Int) := by omega
        subst hA
        by_cases c1 : L < n
        · have e1 : decide (n ≤ L) = false := by simp; omega
          by_cases c2 : n < next
          · have e2 : decide (next ≤ n) = false := by simp; omega
            have RB := Lib.hid (fun V => rooted_any r V)
            cases c3 : rootB r
            · rw [c3] at RB CH
              have CF := Lib.hid (show chainB next 0 vs = false by rw [CH.out]; simp)
              clear c3 CH c1 c2
              go_wp2_with ((with_reducible refine (RB.out _).mono ?_); rintro e w2 ⟨rfl, rfl⟩)
              go_ret
              exact ⟨ret_b CF.out.symm, bon B1.out (bon hb.out (bda _ _))⟩
            · rw [c3] at RB CH
              have CF := Lib.hid (show chainB next 0 vs = chainB next n (vs.drop (k + 1)) by rw [CH.out, decide_eq_true c1, decide_eq_true c2]; rfl)
              clear c3 CH c1 c2
              go_wp2_with ((with_reducible refine (RB.out _).mono ?_); rintro e w2 ⟨rfl, rfl⟩)
              go_roundw
              case rel => exact ⟨k + 1, n, HLT.out, by go_num, rfl, CF, Lib.hid (bon hb.out (bda _ _))⟩
              case measure => simp [intOf]; omega
          · have e2 : decide (next ≤ n) = true := by simp; omega
            have CF := Lib.hid (show chainB next 0 vs = false by rw [CH.out, decide_eq_false c2]; simp)
            clear CH c1 c2
            go_wp2
            go_ret
            exact ⟨ret_b CF.out.symm, bon B1.out (bon hb.out (bda _ _))⟩
        · have e1 : decide (n ≤ L) = true := by simp; omega
          have CF := Lib.hid (show chainB next 0 vs = false by rw [CH.out, decide_eq_false c1]; rfl)
          clear CH c1
          go_wp2
          go_ret
          exact ⟨ret_b CF.out.symm, bon B1.out (bon hb.out (bda _ _))⟩
      · have hkl : k = vs.length := by omega
        subst hkl
        have CF := Lib.hid (show chainB next 0 vs = true by rw [hch.out, List.drop_length]; rfl)
        clear hch
        go_wp2
        go_ret
        exact ⟨ret_b CF.out.symm, bon B1.out hb.out⟩
  · have hr : rightB next vs = false := by
      unfold rightB
      by_cases a1 : 1 ≤ next
      · by_cases a2 : next ≤ 16777216
        · have a3 : ¬ vs.length ≤ 12 := fun a3 => hh ⟨a1, a2, a3⟩
          rw [decide_eq_false a3]; simp
        · rw [decide_eq_false a2]; simp
      · rw [decide_eq_false a1]; simp
    rw [hr]
    clear hr
    by_cases a1 : 1 ≤ next
    · have d1 : decide (next < 1) = false := by simp; omega
      by_cases a2 : next ≤ 16777216
      · have d2 : decide (16777216 < next) = false := by simp; omega
        have a3 : ¬ vs.length ≤ 12 := fun a3 => hh ⟨a1, a2, a3⟩
        have d3 : decide (12 < vs.length) = true := by simp; omega
        have d4 : decide ((12 : Int) < (vs.length : Int)) = true := by simp; omega
        clear hh
        go_enter Try.func15, Try.ntmps15
        go_wp2
        go_ret
        exact ⟨rfl, bda _ _⟩
      · have d2 : decide (16777216 < next) = true := by simp; omega
        clear hh
        go_enter Try.func15, Try.ntmps15
        go_wp2
        go_ret
        exact ⟨rfl, bda _ _⟩
    · have d1 : decide (next < 1) = true := by simp; omega
      clear hh
      go_enter Try.func15, Try.ntmps15
      go_wp2
      go_ret
      exact ⟨rfl, bda _ _⟩
end Go.Proofs.Ytlfjopjfolbmiaa
