/-
  Nodes: rows of values of one cell; keys and kids in plain words.
-/
import Derived.Test.YtmgdpchjimlmeaaRegB
import Derived.Test.YtmgdpchjimlmeaaProg
import Derived.WalkKit
import Derived.WalkSpells
import Derived.WalkLawsBesides
import Derived.Outline
import Derived.Lib.Hide
import Derived.Lib.Strings
import Derived.Laws.IdiomStrings
import Derived.Laws.BitsAllLaws
import Derived.Laws.BitsLemmas
import Derived.Laws.Rows
import Derived.Laws.NewBlocks
import Derived.Laws.OwnMore
import Derived.Laws.CopyOwn
import Derived.Laws.Cover1
import Derived.IntWalk
import Derived.Deep.QuietTactic
import Derived.BigQuiet
import Derived.StillTailTactics
import Derived.Deep.RegionHeld3
import Derived.Deep.OwnRows
import Derived.Deep.DeepCutAuto
import Derived.Deep.LoopGhost
import Derived.Deep.AppendLies
import Derived.Sort.Walk0
namespace Go.Proofs.Ytmgdpchjimlmeaa
open Go.RowKit
set_option maxRecDepth 100000
def sv (l : List UInt8) : Value := .string ⟨l.toArray⟩
def nv (n : Int) : Value := .int .i64 n
theorem sv_one (l : List UInt8) : (sv l).oneCell' = true := rfl
theorem nv_one (n : Int) : (nv n).oneCell' = true := rfl
/-- The slice '.slice A xs.length c' holds xs, a cell each. -/
def Rl {α : Type} (g : α → Value) (w : World) (A : Option Addr) (c : Nat) (xs : List α) : Prop :=
  xs.length ≤ c ∧ (0 < xs.length → ∃ b off, A = some ⟨b, off, none⟩ ∧ b < w.heap.size ∧ ∀ j x, xs[j]? = some x → w.cell? ⟨b, off + j, none⟩ = some (g x))
/-- What a call hands back lies behind block B, or nowhere. -/
def Fr (B : Nat) (A : Option Addr) : Prop := ∀ b o, A = some ⟨b, o, none⟩ → B ≤ b
section
variable {α : Type} {g : α → Value} {w w' : World} {A : Option Addr} {c : Nat} {xs : List α}
theorem Rl.below (h : Rl g w A c xs) (hb : Below w.heap.size w w') : Rl g w' A c xs :=
  ⟨h.1, fun h0 => by
    obtain ⟨b, off, e, hlt, hc⟩ := h.2 h0
    exact ⟨b, off, e, Nat.lt_of_lt_of_le hlt hb.size, fun j x hj => (hb.cell (p := ⟨b, _, none⟩) hlt).trans (hc j x hj)⟩⟩
theorem Rl.nil_ (g : α → Value) (w : World) (A : Option Addr) (c : Nat) : Rl g w A c [] := ⟨Nat.zero_le _, fun h => absurd h (by simp)⟩
theorem Rl.cell (h : Rl g w A c xs) {j : Nat} {x : α} (hj : xs[j]? = some x) : ∃ b off, A = some ⟨b, off, none⟩ ∧ b < w.heap.size ∧ w.cell? ⟨b, off + j, none⟩ = some (g x) := by
  have hl : 0 < xs.length := by
    rcases Nat.eq_zero_or_pos xs.length with h0 | h0
    · rw [List.eq_nil_of_length_eq_zero h0] at hj; simp at hj
    · exact h0
  obtain ⟨b, off, e, hlt, hc⟩ := h.2 hl
  exact ⟨b, off, e, hlt, hc j x hj⟩
theorem Rl.set (h : Rl g w A c xs) {B k : Nat} (hf : Fr B A) (hk : k < B) (o : Nat) (x : Value) : Rl g (w.setCell ⟨k, o, none⟩ x) A c xs :=
  ⟨h.1, fun h0 => by
    obtain ⟨b, off, e, hlt, hc⟩ := h.2 h0
    have hb := hf b off e
    exact ⟨b, off, e, by simpa using hlt, fun j y hj => (World.cell?_setCell_other _ _ _ _ (fun e => by have := congrArg Addr.block e; simp at this; omega)).trans (hc j y hj)⟩⟩
theorem Rl.off (h : Rl g w A c xs) {b' off' : Nat} {A' : Option Addr} {c' k m : Nat} (hA : A = some ⟨b', off', none⟩) (hA' : 0 < m → A' = some ⟨b', off' + k, none⟩) (hm : k + m ≤ xs.length) (hc : m ≤ c') : Rl g w A' c' ((xs.drop k).take m) := by
  have hl : ((xs.drop k).take m).length = m := by rw [List.length_take, List.length_drop]; omega
  refine ⟨by omega, fun h0 => ?_⟩
  rw [hl] at h0
  obtain ⟨b, off, e, hlt, hcell⟩ := h.2 (by omega)
  rw [hA] at e
  injection e with e
  injection e with e1 e2
  subst e1 e2
  refine ⟨b', off' + k, hA' h0, hlt, fun j x hj => ?_⟩
  have hj2 : j < m := by
    have := (List.getElem?_eq_some_iff.1 hj).1
    omega
  rw [List.getElem?_take, if_pos hj2, List.getElem?_drop] at hj
  rw [Nat.add_assoc]
  exact hcell (k + j) x hj
end
theorem bcell {W w1 : World} (hb : Below W.heap.size W w1) : (∀ b o, b < W.heap.size → w1.cell? ⟨b, o, none⟩ = W.cell? ⟨b, o, none⟩) :=
  fun b o h => hb.cell (p := ⟨b, o, none⟩) h
theorem bd0 (W : World) : Below W.heap.size W W.drew := ⟨rfl, rfl, rfl, Nat.le_refl _, fun _ _ => rfl⟩
theorem bda (W : World) (o : Obj) : Below W.heap.size W (W.alloc o) := (Below.refl _ _).alloc (Nat.le_refl _) _
theorem below_drew {B : Nat} {a w : World} (h : Below B a w) : Below B a w.drew := ⟨h.os, h.tape, h.output, h.size, h.block⟩
theorem bon {a b c : World} (h : Below a.heap.size a b) (k : Below b.heap.size b c) : Below a.heap.size a c := h.trans (k.mono h.size)
theorem heap_lt {w : World} {g : Nat} {o : Obj} (h : w.heap[g]? = some o) : g < w.heap.size := by
  rcases Nat.lt_or_ge g w.heap.size with h' | h'
  · exact h'
  · rw [Array.getElem?_eq_none h'] at h; cases h
theorem row_on {w w' : World} {g : Nat} {o : Obj} (h : w.heap[g]? = some o) (hb : Below w.heap.size w w') : w'.heap[g]? = some o := (hb.block g (heap_lt h)).trans h
theorem row_c {w : World} {g i : Nat} {cs : Array Value} {T : TypeId} {fr : Nat × Nat} {v : Value} (h : w.heap[g]? = some (.cells cs T fr)) (hv : cs[i]? = some v) : w.cell? ⟨g, i, none⟩ = some v := by
  rw [cell_of_row _ _ _ _ _ _ h]; exact hv
theorem ret_b {a b : Bool} (h : a = b) : Ending.returned (.bool a) = .returned (.bool b) := by rw [h]
theorem own_set {w : World} {base size n : Nat} {e : TypeId} {v : Value} {xs : List Value} (h : w.ownsRow base e size v n xs) {k : Nat} (hk : k < base) (o : Nat) (x : Value) : (w.setCell ⟨k, o, none⟩ x).ownsRow base e size v n xs := by
  refine ⟨h.1, ?_⟩
  rcases h.2 with h0 | ⟨g, cap, cur, h1, h2, h3, h4⟩
  · exact .inl h0
  · exact .inr ⟨g, cap, cur, h1, h2, (Below.heap_setCell w _ x g (by simp; omega)).trans h3, h4⟩
theorem rl_of_own {α : Type} {g : α → Value} {w : World} {base : Nat} {e : TypeId} {v : Value} {n : Nat} {xs : List α} (h : w.ownsRow base e 1 v n (xs.map g)) : ∃ A c, v = .slice A xs.length c ∧ Rl g w A c xs ∧ Fr base A := by
  have hn : xs.length = n := by have := h.1; rw [List.length_map] at this; omega
  rcases h.2 with ⟨rfl, h0⟩ | ⟨b, cap, cur, rfl, hb, hh, hc, hm, hs, ht⟩
  · have : xs = [] := List.eq_nil_of_length_eq_zero (by omega)
    subst this
    exact ⟨none, 0, rfl, Rl.nil_ _ _ _ _, fun _ _ h => by cases h⟩
  · refine ⟨some ⟨b, 0, none⟩, cap, by rw [hn], ⟨by omega, fun h0 => ⟨b, 0, rfl, heap_lt hh, fun j x hj => ?_⟩⟩, fun b o e => by injection e with e; injection e with e1; omega⟩
    have a1 := h.cells (g := b) rfl j (g x) (by rw [List.getElem?_map, hj]; rfl)
    rw [Addr.add_lit] at a1
    exact a1
theorem rl_of_row {α : Type} {g : α → Value} {w : World} {b : Nat} {T : TypeId} {fr : Nat × Nat} {xs : List α} (h : w.heap[b]? = some (.cells (xs.map g).toArray T fr)) (c : Nat) (hc : xs.length ≤ c) : Rl g w (some ⟨b, 0, none⟩) c xs := by
  refine ⟨hc, fun h0 => ⟨b, 0, rfl, heap_lt h, fun j x hj => ?_⟩⟩
  rw [Nat.zero_add]
  refine row_c h ?_
  rw [List.getElem?_toArray, List.getElem?_map, hj]
  rfl
theorem run_append_nilcap {P : Program} {w : World} (base : Nat) (t ty e : TypeId) (i : TypeInfo) (size c : Nat) (ht : P.underlying t = some (.slice e)) (hi : P.info? e = some i)
    (v : Value) (n : Nat) (xs : List Value) (hown : w.ownsRow base e size v n xs) : (Builtin.append_ #[t, t] ty #[v, .slice none 0 c]).run P w = .ok v w := by
  rcases hown.2 with ⟨rfl, rfl⟩ | ⟨g, cap, cur, rfl, _, _, hnc, _⟩
  · simp [Builtin.append_, run_underlying ht, sizeOf, typeInfo, hi, Builtin.lenOf, Builtin.firstCells]
  · simp [Builtin.append_, run_underlying ht, sizeOf, typeInfo, hi, Builtin.lenOf, Builtin.firstCells, hnc, storeCells]
/-- A slice type of elements of one cell. -/
def ET (T e : TypeId) : Prop := Try.prog.underlying T = some (.slice e) ∧ ∃ i z b, Try.prog.info? e = some i ∧ i.zero = some z ∧ i.size = 1 ∧ i.bytes = b ∧ b ≤ 16 ∧ z.cells.size = 1
theorem et_s : ET 92 9 := by
  obtain ⟨i0, hi, hz0, hz1, hz2⟩ := info_parts (show (Try.prog.info? 9).map (fun i => (i.zero, i.size, i.bytes)) = some (some (.string ⟨#[]⟩), 1, 16) by kernel_rfl)
  exact ⟨Try.underlying92, i0, _, 16, hi, hz0, hz1, hz2, by decide, rfl⟩
theorem et_i : ET 63 3 := by
  obtain ⟨i0, hi, hz0, hz1, hz2⟩ := info_parts (show (Try.prog.info? 3).map (fun i => (i.zero, i.size, i.bytes)) = some (some (.int .i64 0), 1, 8) by kernel_rfl)
  exact ⟨Try.underlying63, i0, _, 8, hi, hz0, hz1, hz2, by decide, rfl⟩
theorem size_s : (Try.prog.info? 9).map (·.size) = some 1 := by kernel_rfl
theorem size_i : (Try.prog.info? 3).map (·.size) = some 1 := by kernel_rfl
theorem wpList_append_rl {α : Type} {g : α → Value} (hg : ∀ x, (g x).oneCell' = true) {w : World} {ops : Array Oper} {rest : List Oper} {o : Oper} {a : Act} {Q : Exit → Act → World → Prop} {T e : TypeId} (hT : ET T e) (hgd : o.guard = none) (s x : Operand)
    (ho : o.op = .call { callee := .builtin .append, args := #[s, x], argTypes := #[T, T] }) (base : Nat) (v : Value) (n : Nat) (zs ys : List α) (B : Option Addr) (d m : Nat)
    (hs : a.eval s = v) (hown : w.ownsRow base e 1 v n (zs.map g)) (hD : Rl g w B d ys) (hm : m = ys.length) (hx : a.eval x = .slice B m d) (hb : n + m ≤ 4000000) (hbase : base ≤ w.heap.size)
    (h : ∀ v' w', w'.ownsRow base e 1 v' (n + m) ((zs ++ ys).map g) → w.grownBy w' v.ownBlock → wpList Try.prog ops Q rest (a.put o.dst v') w') : wpList Try.prog ops Q (o :: rest) a w := by
  obtain ⟨hu, i0, z, b, hi, hz0, hz1, hz2, hb16, hzc⟩ := hT
  subst hm
  rcases B with _ | A
  · have h0 : ys = [] := by
      rcases Nat.eq_zero_or_pos ys.length with h0 | h0
      · exact List.eq_nil_of_length_eq_zero h0
      · obtain ⟨b, off, e, _⟩ := hD.2 h0
        cases e
    subst h0
    refine wpList_plain hgd fun K hK => ?_
    have hrun := run_append_nilcap (P := Try.prog) (w := w) base T o.type e i0 1 d hu hi v n (zs.map g) hown
    unfold Oper.wp
    simp at hx
    simp [execOp, ho, resolve, invoke, builtin, hs, hx, hrun, Result.andThen]
    exact hK _ _ (h v w (by simpa using hown) (World.grownBy.refl _ _))
  · have hbb : (n + ys.length) * b ≤ 140737488355328 := Nat.le_trans (Nat.mul_le_mul hb hb16) (by decide)
    refine wpList_append_own _ hgd s x T ho base e i0 z 1 b hu hi hz0 hz1 hz2 hzc (by decide) v n (zs.map g) hs hown A ys.length d (ys.map g) hx (by simp) (fun j u hj => ?_) (fun u hu => by obtain ⟨y, _, rfl⟩ := List.mem_map.1 hu; exact hg y) (by unfold maxLen; omega) hbb hbase fun v' w' h1 h2 _ => h v' w' (by rw [List.map_append]; exact h1) h2
    rw [List.getElem?_map] at hj
    obtain ⟨y, hy, rfl⟩ := Option.map_eq_some_iff.1 hj
    obtain ⟨b', off, e, _, hc⟩ := hD.cell hy
    injection e with e
    subst e
    rw [Addr.add_lit]
    exact hc
/-- A slice expression 'xs[:k]'. -/
theorem cut_to {T e : TypeId} (hT : ET T e) {α : Type} {g : α → Value} (A : Option Addr) (c : Nat) (xs : List α) (k : Nat) (hk : k ≤ xs.length) (hc : xs.length ≤ c) :
    ∃ A' c', (∀ W, (Instr.slice T (.slice A xs.length c) none (some (.int .i64 (k : Int))) none).run Try.prog W = .ok (.slice A' k c') W) ∧ (∀ W, Rl g W A c xs → Rl g W A' c' (xs.take k)) := by
  obtain ⟨hu, i0, z, b, hi, hz0, hz1, hz2, hb16, hzc⟩ := hT
  refine ⟨if c = 0 then A else A.map (·.add 0), c, fun W => ?_, fun W h => ?_⟩
  · have h2 : (k : Int) ≤ (c : Int) := by omega
    by_cases h0 : c = 0
    · subst h0
      obtain rfl : k = 0 := by omega
      simp [Instr.slice, Instr.sliceBounds, run_underlying hu, go_sem, sizeOf, typeInfo, hi]
    · simp [Instr.slice, Instr.sliceBounds, run_underlying hu, go_sem, h2, h0, sizeOf, typeInfo, hi]
  · rcases Nat.eq_zero_or_pos xs.length with h0 | h0
    · rw [List.eq_nil_of_length_eq_zero h0, List.take_nil]; exact Rl.nil_ _ _ _ _
    · obtain ⟨b, off, e, _, _⟩ := h.2 h0
      have := h.off (A' := if c = 0 then A else A.map (·.add 0)) (c' := c) (k := 0) (m := k) e (fun _ => by rw [if_neg (by omega), e]; simp [Addr.add_lit]) (by omega) (by omega)
      simpa using this
/-- A slice expression 'xs[k:]'. -/
theorem cut_from {T e : TypeId} (hT : ET T e) {α : Type} {g : α → Value} (A : Option Addr) (c : Nat) (xs : List α) (k : Nat) (hk : k ≤ xs.length) (hc : xs.length ≤ c) :
    ∃ A' c', (∀ W, (Instr.slice T (.slice A xs.length c) (some (.int .i64 (k : Int))) none none).run Try.prog W = .ok (.slice A' (xs.length - k) c') W) ∧ (∀ W, Rl g W A c xs → Rl g W A' c' (xs.drop k)) := by
  obtain ⟨hu, i0, z, b, hi, hz0, hz1, hz2, hb16, hzc⟩ := hT
  refine ⟨if c = k then A else A.map (·.add k), c - k, fun W => ?_, fun W h => ?_⟩
  · have h2 : (k : Int) ≤ (xs.length : Int) := by omega
    by_cases h0 : c = k
    · subst h0
      have h4 : xs.length = c := by omega
      simp [Instr.slice, Instr.sliceBounds, run_underlying hu, go_sem, h4, sizeOf, typeInfo, hi, hz1]
    · simp [Instr.slice, Instr.sliceBounds, run_underlying hu, go_sem, h2, h0, sizeOf, typeInfo, hi, hz1]
  · rcases Nat.eq_zero_or_pos xs.length with h0 | h0
    · rw [List.eq_nil_of_length_eq_zero h0]; rw [List.drop_nil]; exact Rl.nil_ _ _ _ _
    · obtain ⟨b, off, e, _, _⟩ := h.2 h0
      have := h.off (A' := if c = k then A else A.map (·.add k)) (c' := c - k) (k := k) (m := xs.length - k) e (fun _ => by rw [if_neg (by omega), e]; simp [Addr.add_lit]) (by omega) (by omega)
      rwa [List.take_of_length_le (by simp)] at this
end Go.Proofs.Ytmgdpchjimlmeaa
