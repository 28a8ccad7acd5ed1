/-
  append to a node's lists in a box: what holds between two appends.
-/
import Derived.Test.YtkbdcbcjbgbglaaNu
namespace Go.Proofs.Ytkbdcbcjbgbglaa
open Go.RowKit
set_option linter.unusedVariables false
set_option linter.unusedSimpArgs false
theorem run_append_zero {P : Program} {w : World} (base : Nat) (t ty e : TypeId) (i : TypeInfo) (size c : Nat) (B : Option Addr) (ht : P.underlying t = some (.slice e)) (hi : P.info? e = some i)
    (v : Value) (n : Nat) (xs : List Value) (hown : w.ownsRow base e size v n xs) : (Builtin.append_ #[t, t] ty #[v, .slice B 0 c]).run P w = .ok v w := by
  rcases hown.2 with ⟨rfl, rfl⟩ | ⟨g, cap, cur, rfl, _, _, hnc, _⟩
  · cases B <;> simp [Builtin.append_, run_underlying ht, sizeOf, typeInfo, hi, Builtin.lenOf, Builtin.firstCells, loadCells, loadCellsFrom]
  · cases B <;> simp [Builtin.append_, run_underlying ht, sizeOf, typeInfo, hi, Builtin.lenOf, Builtin.firstCells, hnc, loadCells, loadCellsFrom, storeCells]
theorem own_shape {α : Type} {g : α → Value} {w : World} {base : Nat} {e : TypeId} {v : Value} {n : Nat} {xs : List α} (h : w.ownsRow base e 1 v n (xs.map g)) : ∃ A c, v = .slice A n c := by
  rcases h.2 with ⟨rfl, h0⟩ | ⟨b, cap, cur, rfl, _⟩
  · exact ⟨none, 0, by rw [h0]⟩
  · exact ⟨_, _, rfl⟩
theorem wp_append2 {α : Type} {g : α → Value} (hg : ∀ x, (g x).oneCell' = true) {w : World} {o : Oper} {a : Act} {K : Act → World → Prop} {Q : Exit → Act → World → Prop} {T e : TypeId} (hT : ET T e) (s x : Operand)
    (ho : o.op = .call { callee := .builtin .append, args := #[s, x], argTypes := #[T, T] }) (base : Nat) (v : Value) (zs ys Z : List α) (B : Option Addr) (d m : Nat)
    (hs : a.eval s = v) (hown : w.ownsRow base e 1 v zs.length (zs.map g)) (hD : Rl g w B d ys) (hm : m = ys.length) (hx : a.eval x = .slice B m d) (hZ : zs ++ ys = Z) (hb : Z.length ≤ 4000000) (hbase : base ≤ w.heap.size)
    (h : ∀ A' c' w', w'.ownsRow base e 1 (.slice A' Z.length c') Z.length (Z.map g) → w.grownBy w' v.ownBlock → (∀ k, (Value.slice A' Z.length c').ownBlock = some k → v.ownBlock = some k ∨ w.heap.size ≤ k) → K (a.put o.dst (.slice A' Z.length c')) w') : o.wp Try.prog a w K Q := by
  obtain ⟨hu, i0, z, b, hi, hz0, hz1, hz2, hb16, hzc⟩ := hT
  subst hm
  have hl : zs.length + ys.length = Z.length := by rw [← hZ, List.length_append]
  rcases Nat.eq_zero_or_pos ys.length with h0 | h0
  · have h00 := List.eq_nil_of_length_eq_zero h0
    subst h00
    have hrun := run_append_zero (P := Try.prog) (w := w) base T o.type e i0 1 d B hu hi v zs.length (zs.map g) hown
    obtain ⟨A, c, hv⟩ := own_shape hown
    subst hv
    unfold Oper.wp
    simp only [List.length_nil] at hx
    simp only [execOp, ho, resolve, invoke, builtin, Sem.run_bind, Sem.run_pure, Result.andThen_ok, List.map_toArray, List.map_cons, List.map_nil, hs, hx, hrun, Result.andThen]
    have hz : Z = zs := by rw [← hZ, List.append_nil]
    subst hz
    exact h A c w hown (World.grownBy.refl _ _) (fun k hk => .inl hk)
  · have hbb : (zs.length + ys.length) * b ≤ 140737488355328 := Nat.le_trans (Nat.mul_le_mul (by omega : _ ≤ 4000000) hb16) (by decide)
    obtain ⟨b', off, rfl, _, hc⟩ := hD.2 h0
    refine wp_append_lies w s x T ho base e i0 z 1 b hu hi hz0 hz1 hz2 hzc (by decide) v zs.length (zs.map g) hs hown ⟨b', off, none⟩ ys.length d (ys.map g) hx (by simp) (fun j u hj => ?_) (fun u hu => by obtain ⟨y, _, rfl⟩ := List.mem_map.1 hu; exact hg y) h0 (by unfold maxLen; omega) hbb hbase w.heap.size rfl (fun g' cap w' h2 h3 h4 h5 => ?_)
    · rw [List.getElem?_map] at hj
      obtain ⟨y, hy, rfl⟩ := Option.map_eq_some_iff.1 hj
      rw [Addr.add_lit]
      exact hc j y hy
    · rw [hl, ← List.map_append, hZ] at h2
      have := h (some ⟨g', 0, none⟩) cap w' h2 h3 (fun k hk => by
        have hkg : g' = k := by simpa [Value.ownBlock] using hk
        subst hkg
        rcases h4 with h1 | h1
        · exact .inl h1
        · exact .inr (by omega))
      rw [← hl] at this
      exact this
theorem wpList_append2 {α : Type} {g : α → Value} (hg : ∀ x, (g x).oneCell' = true) {w : World} {ops : Array Oper} {rest : List Oper} {o : Oper} {a : Act} {Q : Exit → Act → World → Prop} {T e : TypeId} (hT : ET T e) (hgd : o.guard = none) (s x : Operand)
    (ho : o.op = .call { callee := .builtin .append, args := #[s, x], argTypes := #[T, T] }) (base : Nat) (v : Value) (zs ys Z : List α) (B : Option Addr) (d m : Nat)
    (hs : a.eval s = v) (hown : w.ownsRow base e 1 v zs.length (zs.map g)) (hD : Rl g w B d ys) (hm : m = ys.length) (hx : a.eval x = .slice B m d) (hZ : zs ++ ys = Z) (hb : Z.length ≤ 4000000) (hbase : base ≤ w.heap.size)
    (h : ∀ A' c' w', w'.ownsRow base e 1 (.slice A' Z.length c') Z.length (Z.map g) → w.grownBy w' v.ownBlock → (∀ k, (Value.slice A' Z.length c').ownBlock = some k → v.ownBlock = some k ∨ w.heap.size ≤ k) → wpList Try.prog ops Q rest (a.put o.dst (.slice A' Z.length c')) w') : wpList Try.prog ops Q (o :: rest) a w :=
  wpList_plain hgd fun K hK => wp_append2 hg hT s x ho base v zs ys Z B d m hs hown hD hm hx hZ hb hbase fun A' c' w' h1 h2 h3 => hK _ _ (h A' c' w' h1 h2 h3)
/-- A node in box g, whose lists lie behind 'base', each in a block of its own. -/
structure Bx (w V : World) (base g : Nat) (T : TypeId) (lf : Bool) (A : Option Addr) (c : Nat) (zs : List (List UInt8)) (B : Option Addr) (d : Nat) (ys : List Int) : Prop where
  o1 : V.ownsRow base 9 1 (.slice A zs.length c) zs.length (zs.map sv)
  o2 : V.ownsRow base 3 1 (.slice B ys.length d) ys.length (ys.map nv)
  dj : DJ (.slice A zs.length c) (.slice B ys.length d)
  row : V.heap[g]? = some (.cells #[.bool lf, .slice A zs.length c, .slice B ys.length d] T (0, 0))
  kb : Below w.heap.size w V
  bz : base ≤ V.heap.size
  lt : w.heap.size ≤ g ∧ g < base
section
variable {w V x x9 : World} {base g : Nat} {T : TypeId} {lf : Bool} {A : Option Addr} {c : Nat} {zs : List (List UInt8)} {B : Option Addr} {d : Nat} {ys : List Int}
theorem Bx.fresh (h : V.heap[g]? = some (.cells #[.bool lf, .slice none 0 0, .slice none 0 0] T (0, 0))) (kb : Below w.heap.size w V) (bz : base ≤ V.heap.size) (lt : w.heap.size ≤ g ∧ g < base) : Bx w V base g T lf none 0 [] none 0 [] :=
  ⟨World.ownsRow_nil _ _ _ _, World.ownsRow_nil _ _ _ _, (fun k h => by cases h), h, kb, bz, lt⟩
theorem Bx.below (h : Bx w V base g T lf A c zs B d ys) (hb : Below V.heap.size V x) : Bx w x base g T lf A c zs B d ys :=
  ⟨own_later h.o1 hb, own_later h.o2 hb, h.dj, row_on h.row hb, h.kb.trans (hb.mono h.kb.size), Nat.le_trans h.bz hb.size, h.lt⟩
theorem Bx.f (h : Bx w V base g T lf A c zs B d ys) (hb : Below V.heap.size V x) : x.cell? ⟨g, 0, none⟩ = some (.bool lf) ∧ x.cell? ⟨g, 1, none⟩ = some (.slice A zs.length c) ∧ x.cell? ⟨g, 2, none⟩ = some (.slice B ys.length d) :=
  ⟨row_c (row_on h.row hb) (i := 0) rfl, row_c (row_on h.row hb) (i := 1) rfl, row_c (row_on h.row hb) (i := 2) rfl⟩
variable {A' : Option Addr} {c' : Nat} {zs' : List (List UInt8)} {ys' : List Int}
theorem Bx.row1 (h : Bx w x base g T lf A c zs B d ys) (hg : x.grownBy x9 (Value.slice A zs.length c).ownBlock) {k : Nat} {o : Obj} (hk : k < base) (hr : x.heap[k]? = some o) : x9.heap[k]? = some o := row_own h.o1 hg hk hr
theorem Bx.row2 (h : Bx w x base g T lf A c zs B d ys) (hg : x.grownBy x9 (Value.slice B ys.length d).ownBlock) {k : Nat} {o : Obj} (hk : k < base) (hr : x.heap[k]? = some o) : x9.heap[k]? = some o := row_own h.o2 hg hk hr
theorem Bx.push1 (h : Bx w x base g T lf A c zs B d ys) (h9 : x9.ownsRow base 9 1 (.slice A' zs'.length c') zs'.length (zs'.map sv)) (hg : x.grownBy x9 (Value.slice A zs.length c).ownBlock)
    (hn : ∀ k, (Value.slice A' zs'.length c').ownBlock = some k → (Value.slice A zs.length c).ownBlock = some k ∨ x.heap.size ≤ k) : Bx w (x9.setCell ⟨g, 1, none⟩ (.slice A' zs'.length c')) base g T lf A' c' zs' B d ys :=
  ⟨own_set h9 h.lt.2 _ _, own_set (own_other h.o2 hg h.dj) h.lt.2 _ _, dj_new h.dj hn h.o2, by have := row_set (i := 1) (h.row1 hg h.lt.2 h.row) (.slice A' zs'.length c'); simpa using this,
    (h.kb.trans (below_own h.o1 hg (Nat.le_of_lt (Nat.lt_of_le_of_lt h.lt.1 h.lt.2)) h.bz)).setCell (by simpa using h.lt.1) _, by simpa using Nat.le_trans h.bz hg.size, h.lt⟩
theorem Bx.push2 (h : Bx w x base g T lf A c zs B d ys) (h9 : x9.ownsRow base 3 1 (.slice A' ys'.length c') ys'.length (ys'.map nv)) (hg : x.grownBy x9 (Value.slice B ys.length d).ownBlock)
    (hn : ∀ k, (Value.slice A' ys'.length c').ownBlock = some k → (Value.slice B ys.length d).ownBlock = some k ∨ x.heap.size ≤ k) : Bx w (x9.setCell ⟨g, 2, none⟩ (.slice A' ys'.length c')) base g T lf A c zs A' c' ys' :=
  ⟨own_set (own_other h.o1 hg h.dj.symm) h.lt.2 _ _, own_set h9 h.lt.2 _ _, (dj_new h.dj.symm hn h.o1).symm, by have := row_set (i := 2) (h.row2 hg h.lt.2 h.row) (.slice A' ys'.length c'); simpa using this,
    (h.kb.trans (below_own h.o2 hg (Nat.le_of_lt (Nat.lt_of_le_of_lt h.lt.1 h.lt.2)) h.bz)).setCell (by simpa using h.lt.1) _, by simpa using Nat.le_trans h.bz hg.size, h.lt⟩
theorem Bx.rl (h : Bx w V base g T lf A c zs B d ys) : Rl sv V A c zs ∧ Rl nv V B d ys ∧ Fr base A ∧ Fr base B := ⟨(rl_own' h.o1).1, (rl_own' h.o2).1, (rl_own' h.o1).2, (rl_own' h.o2).2⟩
/-- What lies in the memory of the beginning stays. -/
theorem Bx.old (h : Bx w V base g T lf A c zs B d ys) {α : Type} {gg : α → Value} {A0 : Option Addr} {c0 : Nat} {xs : List α} (hr : Rl gg w A0 c0 xs) : Rl gg V A0 c0 xs := hr.below h.kb
end
end Go.Proofs.Ytkbdcbcjbgbglaa
