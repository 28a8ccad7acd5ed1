/-
  A disk in memory: plain words; what is read of it at once.
-/
import Derived.Test.YtmgdpchjimlmeaaNa
import Derived.Test.YtmgdpchjimlmeaaRegC
import Derived.Laws.OwnMore
import Derived.Laws.MakeOwn
import Derived.Laws.CopyRow
import Derived.Deep.AppendLies
namespace Go.Proofs.Ytmgdpchjimlmeaa
open Go.RowKit
set_option linter.unusedSimpArgs false
set_option linter.unusedVariables false
/-- Bytes as cells. -/
def bc (l : List UInt8) : List Value := l.map fun b => Value.int .u8 b.toNat
theorem bc_len (l : List UInt8) : (bc l).length = l.length := by unfold bc; rw [List.length_map]
theorem bc_app (a b : List UInt8) : bc (a ++ b) = bc a ++ bc b := by unfold bc; rw [List.map_append]
theorem bc_take (n : Nat) (a : List UInt8) : (bc a).take n = bc (a.take n) := by unfold bc; rw [List.map_take]
theorem bc_drop (n : Nat) (a : List UInt8) : (bc a).drop n = bc (a.drop n) := by unfold bc; rw [List.map_drop]
theorem bc_one (l : List UInt8) : ∀ v ∈ bc l, v.oneCell' = true := by
  intro v hv
  simp only [bc, List.mem_map] at hv
  obtain ⟨b, _, rfl⟩ := hv
  rfl
theorem bc_at {l : List UInt8} {j : Nat} (h : j < l.length) : (bc l)[j]? = some (.int .u8 (l[j].toNat : Int)) := by
  unfold bc; rw [List.getElem?_map, List.getElem?_eq_getElem h]; rfl
/-- 64 bytes, all 0. -/
def z64 : List UInt8 := List.replicate 64 0
theorem z64_len : z64.length = 64 := by unfold z64; rw [List.length_replicate]
/-- A write that waits: which sector, what. -/
abbrev Wt := Nat × List UInt8
def wcell (c : Wt) : List Value := .int .i64 (c.1 : Int) :: bc c.2
def wcells (C : List Wt) : List Value := C.flatMap wcell
theorem wcells_app (a b : List Wt) : wcells (a ++ b) = wcells a ++ wcells b := by unfold wcells; rw [List.flatMap_append]
theorem wcells_len {C : List Wt} (h : ∀ c ∈ C, c.2.length = 64) : (wcells C).length = C.length * 65 := by
  induction C with
  | nil => rfl
  | cons c r ih =>
    have e : wcells (c :: r) = wcell c ++ wcells r := by unfold wcells; rw [List.flatMap_cons]
    have h1 := h c (by simp)
    rw [e, List.length_append, ih (fun x hx => h x (by simp [hx]))]
    unfold wcell
    rw [List.length_cons, bc_len, h1, List.length_cons]; omega
theorem wcells_at {C : List Wt} : ∀ {k j : Nat} (hk : k < C.length), (∀ c ∈ C, c.2.length = 64) → j < 65 → (wcells C)[k * 65 + j]? = (wcell C[k])[j]? := by
  induction C with
  | nil => intro k j hk; simp at hk
  | cons c r ih =>
    intro k j hk h hj
    have e : wcells (c :: r) = wcell c ++ wcells r := by unfold wcells; rw [List.flatMap_cons]
    have h1 := h c (by simp)
    have hl : (wcell c).length = 65 := by unfold wcell; rw [List.length_cons, bc_len, h1]
    rw [e]
    cases k with
    | zero => rw [List.getElem?_append_left (by omega)]; simp
    | succ k =>
      rw [List.getElem?_append_right (by omega), hl, show (k + 1) * 65 + j - 65 = k * 65 + j by omega, ih (by simpa using hk) (fun x hx => h x (by simp [hx])) hj]
      rfl
theorem wcell_one (c : Wt) : ∀ v ∈ wcell c, v.oneCell' = true := by
  intro v hv
  rcases List.mem_cons.1 hv with rfl | hv
  · rfl
  · exact bc_one _ v hv
theorem flat_len {S : List (List UInt8)} (h : ∀ s ∈ S, s.length = 64) : S.flatten.length = S.length * 64 := by
  induction S with
  | nil => rfl
  | cons s r ih =>
    rw [List.flatten_cons, List.length_append, ih (fun x hx => h x (by simp [hx])), h s (by simp), List.length_cons]; omega
theorem flat_at {S : List (List UInt8)} : ∀ {k : Nat} (hk : k < S.length), (∀ s ∈ S, s.length = 64) → (S.flatten.drop (k * 64)).take 64 = S[k] ∧ ∀ t : List UInt8, t.length = 64 → (S.set k t).flatten = S.flatten.take (k * 64) ++ t ++ S.flatten.drop (k * 64 + 64) := by
  induction S with
  | nil => intro k hk; simp at hk
  | cons s r ih =>
    intro k hk h
    have h1 := h s (by simp)
    cases k with
    | zero =>
      refine ⟨by simp [h1], fun t ht => ?_⟩
      simp [h1]
    | succ k =>
      obtain ⟨a, b⟩ := ih (k := k) (by simpa using hk) (fun x hx => h x (by simp [hx]))
      have e : (k + 1) * 64 = s.length + k * 64 := by omega
      refine ⟨?_, fun t ht => ?_⟩
      · rw [List.flatten_cons, e, List.drop_append, List.drop_of_length_le (by omega), List.nil_append, show s.length + k * 64 - s.length = k * 64 by omega, a]; rfl
      · rw [List.set_cons_succ, List.flatten_cons, List.flatten_cons, b t ht, e, List.take_append, List.drop_append, List.take_of_length_le (show s.length ≤ s.length + k * 64 by omega), List.drop_of_length_le (show s.length ≤ s.length + k * 64 + 64 by omega), List.nil_append, show s.length + k * 64 - s.length = k * 64 by omega, show s.length + k * 64 + 64 - s.length = k * 64 + 64 by omega]
        simp only [List.append_assoc]
/-- A disk: its box g, its sectors' block gs, the slice v of what waits (its blocks from B on). -/
structure Dk (B : Nat) (w : World) (g gs : Nat) (v : Value) (S : List (List UInt8)) (C : List Wt) : Prop where
  hg : w.heap[g]? = some (.cells #[.slice (some ⟨gs, 0, none⟩) S.length S.length, v, .int .i64 (-1), .bool false] 58 (0, 0))
  hs : w.heap[gs]? = some (.cells (bc S.flatten).toArray 105 (0, 0))
  ho : w.ownsRow B 107 65 v C.length (wcells C)
  gB : g < B
  sB : gs < B
  ne : g ≠ gs
  hB : B ≤ w.heap.size
  s64 : ∀ s ∈ S, s.length = 64
  c64 : ∀ c ∈ C, c.2.length = 64
  cn : ∀ c ∈ C, c.1 < S.length
  n1 : 1 ≤ S.length
  n2 : S.length ≤ 1024
/-- Below B nothing but g and gs may have turned. -/
structure Ch (B g gs : Nat) (w w' : World) : Prop where
  os : w'.os = w.os
  tape : w'.tape = w.tape
  output : w'.output = w.output
  size : w.heap.size ≤ w'.heap.size
  block : ∀ k, k < B → k ≠ g → k ≠ gs → w'.heap[k]? = w.heap[k]?
  typ : ∀ k, k < w.heap.size → k ≠ g → k ≠ gs → (∀ cs fr, w.heap[k]? ≠ some (.cells cs 107 fr)) → w'.heap[k]? = w.heap[k]?
theorem Ch.refl (B g gs : Nat) (w : World) : Ch B g gs w w := ⟨rfl, rfl, rfl, Nat.le_refl _, fun _ _ _ _ => rfl, fun _ _ _ _ _ => rfl⟩
theorem Ch.trans {B g gs : Nat} {a b c : World} (h : Ch B g gs a b) (k : Ch B g gs b c) : Ch B g gs a c :=
  ⟨k.os.trans h.os, k.tape.trans h.tape, k.output.trans h.output, Nat.le_trans h.size k.size, fun i h1 h2 h3 => (k.block i h1 h2 h3).trans (h.block i h1 h2 h3),
    fun i h1 h2 h3 h4 => (k.typ i (Nat.lt_of_lt_of_le h1 h.size) h2 h3 (by rw [h.typ i h1 h2 h3 h4]; exact h4)).trans (h.typ i h1 h2 h3 h4)⟩
theorem Ch.of_below {B g gs : Nat} {a b : World} (h : Below a.heap.size a b) (hB : B ≤ a.heap.size) : Ch B g gs a b := ⟨h.os, h.tape, h.output, h.size, fun i h1 _ _ => h.block i (Nat.lt_of_lt_of_le h1 hB), fun i h1 _ _ _ => h.block i h1⟩
theorem Ch.below {B N g gs : Nat} {w0 a b : World} (h : Ch B g gs a b) (hb : Below N w0 a) (h1 : N ≤ B) (h2 : N ≤ g) (h3 : N ≤ gs) : Below N w0 b :=
  ⟨h.os.trans hb.os, h.tape.trans hb.tape, h.output.trans hb.output, Nat.le_trans hb.size h.size, fun k hk => (h.block k (by omega) (by omega) (by omega)).trans (hb.block k hk)⟩
theorem Ch.setCell {B g gs : Nat} {a b : World} (h : Ch B g gs a b) (i : Nat) (u : Value) : Ch B g gs a (b.setCell ⟨g, i, none⟩ u) :=
  h.trans ⟨rfl, rfl, rfl, by simp [World.setCell], fun k _ hk _ => Below.heap_setCell _ _ _ _ hk, fun k _ hk _ _ => Below.heap_setCell _ _ _ _ hk⟩
theorem Ch.setRow {B g gs : Nat} {a b : World} (h : Ch B g gs a b) (c : Array Value) : Ch B g gs a (b.setRow gs c) :=
  h.trans ⟨rfl, rfl, rfl, by simp [World.setRow], fun k _ _ hk => by
    simp only [World.setRow, Array.getElem?_modify]
    rw [if_neg (by omega)], fun k _ _ hk _ => by
    simp only [World.setRow, Array.getElem?_modify]
    rw [if_neg (by omega)]⟩
theorem Ch.row {B g gs k : Nat} {w w' : World} (h : Ch B g gs w w') (hk : k < B) (h1 : k ≠ g) (h2 : k ≠ gs) {o : Option Obj} (hr : w.heap[k]? = o) : w'.heap[k]? = o := (h.block k hk h1 h2).trans hr
/-- Blocks that hold no waiting writes stay, wherever they lie. -/
theorem Ch.stay {B g gs k : Nat} {w w' : World} (h : Ch B g gs w w') {cs : Array Value} {T : TypeId} {fr : Nat × Nat} (hr : w.heap[k]? = some (.cells cs T fr)) (hT : T ≠ 107) (h1 : k ≠ g) (h2 : k ≠ gs) : w'.heap[k]? = some (.cells cs T fr) :=
  (h.typ k (heap_lt hr) h1 h2 (fun c f e => by rw [hr] at e; injection e with e; injection e with _ e2 _; exact hT e2)).trans hr
theorem own_below {w w' : World} {B : Nat} {e : TypeId} {size : Nat} {v : Value} {n : Nat} {xs : List Value} (h : w.ownsRow B e size v n xs) (hb : Below w.heap.size w w') : w'.ownsRow B e size v n xs :=
  h.kept (row := none) ⟨hb.os, hb.tape, hb.output, hb.size, fun k hk _ => hb.block k hk⟩ (by
    cases v.ownBlock with
    | none => exact .inl rfl
    | some k => exact .inr (fun e => by cases e))
/-- What leaves all older memory alone leaves a disk. -/
theorem Dk.below {B g gs : Nat} {v : Value} {S : List (List UInt8)} {C : List Wt} {w w' : World} (h : Dk B w g gs v S C) (hb : Below w.heap.size w w') : Dk B w' g gs v S C :=
  ⟨row_on h.hg hb, row_on h.hs hb, own_below h.ho hb, h.gB, h.sB, h.ne, Nat.le_trans h.hB hb.size, h.s64, h.c64, h.cn, h.n1, h.n2⟩
theorem Dk.rebase {B B' g gs : Nat} {S : List (List UInt8)} {w : World} (h : Dk B w g gs (.slice none 0 0) S []) (h1 : B ≤ B') (h2 : B' ≤ w.heap.size) : Dk B' w g gs (.slice none 0 0) S [] :=
  ⟨h.hg, h.hs, World.ownsRow_nil _ _ _ _, by have := h.gB; omega, by have := h.sB; omega, h.ne, h2, h.s64, h.c64, h.cn, h.n1, h.n2⟩

theorem own_form {w : World} {B : Nat} {e : TypeId} {size : Nat} {v : Value} {n : Nat} {xs : List Value} (h : w.ownsRow B e size v n xs) : ∃ A c, v = .slice A n c := by
  rcases h.2 with ⟨rfl, rfl⟩ | ⟨g, cap, cur, rfl, _⟩
  · exact ⟨none, 0, rfl⟩
  · exact ⟨_, cap, rfl⟩

set_option maxHeartbeats 1000000 in
set_option maxRecDepth 100000 in
theorem has_any {B g gs : Nat} {v : Value} {S : List (List UInt8)} {C : List Wt} (i : Int) (q : Bool) (w : World) (h : Dk B w g gs v S C) (hq : decide (0 ≤ i ∧ i < (S.length : Int)) = q) :
    Calls Try.prog 66 #[.pointer (some ⟨g, 0, none⟩), .int .i64 i] w fun e w' => e = .returned (.bool q) ∧ w' = w := by
  have f0 := row_c (i := 0) h.hg rfl
  obtain ⟨n, hn⟩ : ∃ n, S.length = n := ⟨_, rfl⟩
  rw [hn] at f0 hq
  clear h hn
  by_cases h0 : 0 ≤ i
  · have d0 : decide (0 ≤ i) = true := decide_eq_true h0
    by_cases h1 : i < (n : Int)
    · have d1 : decide (i < (n : Int)) = true := decide_eq_true h1
      obtain rfl : true = q := by rw [← hq]; simp [h0, h1]
      go_enter Try.func66, Try.ntmps66
      go_wp2
      go_ret
      exact ⟨rfl, rfl⟩
    · have d1 : decide (i < (n : Int)) = false := decide_eq_false h1
      obtain rfl : false = q := by rw [← hq]; simp [h0, h1]
      go_enter Try.func66, Try.ntmps66
      go_wp2
      go_ret
      exact ⟨rfl, rfl⟩
  · have d0 : decide (0 ≤ i) = false := decide_eq_false h0
    obtain rfl : false = q := by rw [← hq]; simp [h0]
    go_enter Try.func66, Try.ntmps66
    go_wp2
    go_ret
    exact ⟨rfl, rfl⟩

set_option maxHeartbeats 1000000 in
set_option maxRecDepth 100000 in
theorem sectors_any {B g gs : Nat} {v : Value} {S : List (List UInt8)} {C : List Wt} (w : World) (h : Dk B w g gs v S C) :
    Calls Try.prog 34 #[.pointer (some ⟨g, 0, none⟩)] w fun e w' => e = .returned (.int .i64 S.length) ∧ w' = w := by
  skip
  have f := row_c (i := 0) h.hg rfl
  clear h
  go_enter Try.func34, Try.ntmps34
  go_wp2
  go_ret
  exact ⟨rfl, rfl⟩

end Go.Proofs.Ytmgdpchjimlmeaa
