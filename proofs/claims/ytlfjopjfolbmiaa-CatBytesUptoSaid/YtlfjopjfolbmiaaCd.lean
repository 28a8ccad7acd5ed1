/-
  append(own, versions...), whatever memory holds them; slices.Grow, slices.Concat of two.
-/
import Derived.Test.YtlfjopjfolbmiaaCc
import Derived.Lib.AppendZeros
namespace Go.Proofs.Ytlfjopjfolbmiaa
open Go.RowKit
def vcells (vs : List (Int × Int)) : List Value := vs.flatMap fun v => [.int .i64 v.1, .int .i64 v.2]
theorem vcells_len (vs : List (Int × Int)) : (vcells vs).length = vs.length * 2 := by
  unfold vcells
  induction vs with
  | nil => rfl
  | cons v r ih => rw [List.flatMap_cons, List.length_append, ih]; simp only [List.length_cons, List.length_nil]; omega
theorem vcells_app (a b : List (Int × Int)) : vcells (a ++ b) = vcells a ++ vcells b := by simp [vcells]
theorem vcells_at {vs : List (Int × Int)} : ∀ {j : Nat}, j < vs.length → (vcells vs)[j * 2]? = some (.int .i64 (at2 vs j).1) ∧ (vcells vs)[j * 2 + 1]? = some (.int .i64 (at2 vs j).2) := by
  induction vs with
  | nil => intro j h; simp at h
  | cons v r ih =>
    intro j h
    cases j with
    | zero => exact ⟨rfl, rfl⟩
    | succ j =>
      have := ih (j := j) (by simpa using h)
      have e : at2 (v :: r) (j + 1) = at2 r j := by unfold at2; simp
      rw [e]
      have e2 : vcells (v :: r) = .int .i64 v.1 :: .int .i64 v.2 :: vcells r := rfl
      rw [e2, show (j + 1) * 2 = j * 2 + 1 + 1 by omega]
      exact this
theorem vcells_get {vs : List (Int × Int)} {j : Nat} {u : Value} (h : (vcells vs)[j]? = some u) : ∃ i, i < vs.length ∧ ((j = i * 2 ∧ u = .int .i64 (at2 vs i).1) ∨ (j = i * 2 + 1 ∧ u = .int .i64 (at2 vs i).2)) := by
  have hl : j < vs.length * 2 := by rw [← vcells_len]; exact (List.getElem?_eq_some_iff.1 h).1
  refine ⟨j / 2, by omega, ?_⟩
  have := vcells_at (vs := vs) (j := j / 2) (by omega)
  rcases Nat.mod_two_eq_zero_or_one j with h2 | h2
  · refine .inl ⟨by omega, ?_⟩
    rw [show j / 2 * 2 = j by omega, h] at this
    exact Option.some.inj this.1
  · refine .inr ⟨by omega, ?_⟩
    rw [show j / 2 * 2 + 1 = j by omega, h] at this
    exact Option.some.inj this.2
theorem vcells_one {vs : List (Int × Int)} : ∀ u ∈ vcells vs, u.oneCell' = true := by
  intro u hu
  obtain ⟨j, hj⟩ := List.getElem?_of_mem hu
  obtain ⟨i, _, ⟨_, rfl⟩ | ⟨_, rfl⟩⟩ := vcells_get hj <;> rfl
theorem vs_cell {w : World} {A : Addr} {c : Nat} {vs : List (Int × Int)} (h : Vs w (some A) c vs) {j : Nat} {u : Value} (hu : (vcells vs)[j]? = some u) : w.cell? (A.add j) = some u := by
  obtain ⟨i, hi, hh⟩ := vcells_get hu
  obtain ⟨b, off, e, _, hc⟩ := h.2 (by omega)
  injection e with e
  subst e
  rw [Addr.add_lit]
  rcases hh with ⟨rfl, rfl⟩ | ⟨rfl, rfl⟩
  · exact (hc i hi).1
  · rw [← Nat.add_assoc]; exact (hc i hi).2
/-- What a call hands back lies behind block B, or nowhere. -/
def Fr (B : Nat) (A : Option Addr) : Prop := ∀ b o, A = some ⟨b, o, none⟩ → B ≤ b
theorem Vs.set {w : World} {A : Option Addr} {c B g : Nat} {vs : List (Int × Int)} (h : Vs w A c vs) (hf : Fr B A) (hg : g < B) (o : Nat) (x : Value) : Vs (w.setCell ⟨g, o, none⟩ x) A c vs :=
  ⟨h.1, fun h0 => by
    obtain ⟨b, off, e, hlt, hc⟩ := h.2 h0
    have hb := hf b off e
    refine ⟨b, off, e, by simpa using hlt, fun j hj => ⟨?_, ?_⟩⟩
    · exact (World.cell?_setCell_other _ _ _ _ (fun e => by have := congrArg Addr.block e; simp at this; omega)).trans (hc j hj).1
    · exact (World.cell?_setCell_other _ _ _ _ (fun e => by have := congrArg Addr.block e; simp at this; omega)).trans (hc j hj).2⟩
theorem vs_of_own {w : World} {base : Nat} {e : TypeId} {v : Value} {n : Nat} {vs : List (Int × Int)} (h : w.ownsRow base e 2 v n (vcells vs)) : ∃ A c, v = .slice A vs.length c ∧ Vs w A c vs ∧ Fr base A := by
  have hn : vs.length = n := by have := h.1; rw [vcells_len] at this; omega
  rcases h.2 with ⟨rfl, h0⟩ | ⟨g, cap, cur, rfl, hb, hh, hc, hm, hs, ht⟩
  · have : vs = [] := List.eq_nil_of_length_eq_zero (by omega)
    subst this
    exact ⟨none, 0, rfl, Vs.nil_ _ _, fun _ _ h => by cases h⟩
  · refine ⟨some ⟨g, 0, none⟩, cap, by rw [hn], ⟨by omega, fun h0 => ⟨g, 0, rfl, heap_lt hh, fun j hj => ?_⟩⟩, fun b o e => by injection e with e; injection e with e1; omega⟩
    have := vcells_at hj
    have a1 := h.cells (g := g) rfl _ _ this.1
    have a2 := h.cells (g := g) rfl _ _ this.2
    rw [Addr.add_lit] at a1 a2
    exact ⟨a1, by rw [← a2, Nat.add_assoc]⟩
theorem run_append_nilcap {P : Program} {w : World} (base : Nat) (t ty e : TypeId) (i : TypeInfo) (size c : Nat) (ht : P.underlying t = some (.slice e)) (hi : P.info? e = some i)
    (v : Value) (n : Nat) (xs : List Value) (hown : w.ownsRow base e size v n xs) : (Builtin.append_ #[t, t] ty #[v, .slice none 0 c]).run P w = .ok v w := by
  rcases hown.2 with ⟨rfl, rfl⟩ | ⟨g, cap, cur, rfl, _, _, hnc, _⟩
  · simp [Builtin.append_, run_underlying ht, sizeOf, typeInfo, hi, Builtin.lenOf, Builtin.firstCells]
  · simp [Builtin.append_, run_underlying ht, sizeOf, typeInfo, hi, Builtin.lenOf, Builtin.firstCells, hnc, storeCells]
/-- What a type of versions is. -/
def VT (T e : TypeId) : Prop := Try.prog.underlying T = some (.slice e) ∧ ∃ i z, Try.prog.info? e = some i ∧ i.zero = some z ∧ i.size = 2 ∧ i.bytes = 16 ∧ z.cells.size = 2
theorem vt1 : VT 22 53 := by
  obtain ⟨i0, hi, hz0, hz1, hz2⟩ := info_parts (show (Try.prog.info? 53).map (fun i => (i.zero, i.size, i.bytes)) = some (some (.agg #[.int .i64 0, .int .i64 0]), 2, 16) by kernel_rfl)
  exact ⟨Try.underlying22, i0, _, hi, hz0, hz1, hz2, rfl⟩
theorem vt2 : VT 32 59 := by
  obtain ⟨i0, hi, hz0, hz1, hz2⟩ := info_parts (show (Try.prog.info? 59).map (fun i => (i.zero, i.size, i.bytes)) = some (some (.agg #[.int .i64 0, .int .i64 0]), 2, 16) by kernel_rfl)
  exact ⟨Try.underlying32, i0, _, hi, hz0, hz1, hz2, rfl⟩
theorem wpList_append_vs {w : World} {ops : Array Oper} {rest : List Oper} {o : Oper} {a : Act} {Q : Exit → Act → World → Prop} {T e : TypeId} (hT : VT T e) (hgd : o.guard = none) (s x : Operand)
    (ho : o.op = .call { callee := .builtin .append, args := #[s, x], argTypes := #[T, T] }) (base : Nat) (v : Value) (n : Nat) (zs ys : List (Int × Int)) (B : Option Addr) (d m : Nat)
    (hs : a.eval s = v) (hown : w.ownsRow base e 2 v n (vcells zs)) (hD : Vs w B d ys) (hm : m = ys.length) (hx : a.eval x = .slice B m d) (hb : n + m ≤ 1000000) (hbase : base ≤ w.heap.size)
    (h : ∀ v' w', w'.ownsRow base e 2 v' (n + m) (vcells (zs ++ ys)) → w.grownBy w' v.ownBlock → wpList Try.prog ops Q rest (a.put o.dst v') w') : wpList Try.prog ops Q (o :: rest) a w := by
  obtain ⟨hu, i0, z, hi, hz0, hz1, hz2, hzc⟩ := hT
  subst hm
  rcases B with _ | A
  · have h0 : ys = [] := by
      rcases Nat.eq_zero_or_pos ys.length with h0 | h0
      · exact List.eq_nil_of_length_eq_zero h0
      · obtain ⟨b, off, e, _⟩ := hD.2 h0
        cases e
    subst h0
    refine wpList_plain hgd fun K hK => ?_
    have hrun := run_append_nilcap (P := Try.prog) (w := w) base T o.type e i0 2 d hu hi v n (vcells zs) hown
    unfold Oper.wp
    simp at hx
    simp [execOp, ho, resolve, invoke, builtin, hs, hx, hrun, Result.andThen]
    exact hK _ _ (h v w (by simpa using hown) (World.grownBy.refl _ _))
  · exact wpList_append_own _ hgd s x T ho base e i0 z 2 16 hu hi hz0 hz1 hz2 hzc (by decide) v n (vcells zs) hs hown A ys.length d (vcells ys) hx (by rw [vcells_len]) (fun j u hj => vs_cell hD hj) vcells_one (by unfold maxLen; omega) (by omega) hbase fun v' w' h1 h2 _ => h v' w' (by rw [vcells_app]; exact h1) h2
set_option maxHeartbeats 1000000 in
set_option maxRecDepth 100000 in
theorem grow_any (n : Nat) (w : World) (hn : n ≤ 1000000) :
    Calls Try.prog 33 #[.slice none 0 0, .int .i64 n] w fun e w' => ∃ v, e = .returned v ∧ w'.ownsRow w.heap.size 53 2 v 0 (vcells []) ∧ Below w.heap.size w w' := by
  obtain ⟨i0, hi, hz0, hz1, hz2⟩ := info_parts (show (Try.prog.info? 53).map (fun i => (i.zero, i.size, i.bytes)) = some (some (.agg #[.int .i64 0, .int .i64 0]), 2, 16) by kernel_rfl)
  by_cases h0 : n = 0
  · subst h0
    go_enter Try.func33, Try.ntmps33
    go_wp2
    go_ret
    exact ⟨_, rfl, World.ownsRow_nil _ _ _ _, Below.refl _ _⟩
  · have hap := fun (W : World) (ty : TypeId) => Lib.run_append_nil_zeros (P := Try.prog) W 22 3 ty 53 i0 _ .i64 .i64 Try.underlying22 Try.underlying3 hi hz0 n (by omega) (by rw [hz1]; omega) (by omega) (by rw [hz2]; omega)
    have e1 : decide ((n : Int) < 0) = false := by simp
    have e2 : decide ((0 : Int) < (n : Int)) = true := by simp; omega
    have e3 : decide (0 < n) = true := by simp; omega
    have cg := grownCap_ge w n 0 53
    obtain ⟨cap, hcap⟩ : ∃ cap, grownCap w n 0 53 = cap := ⟨_, rfl⟩
    have hap' := hap w
    rw [hcap] at hap' cg
    go_enter Try.func33, Try.ntmps33
    have cm := Lib.hid (grownCap_le_maxLen w n 0 53 (by unfold maxLen; omega))
    rw [hcap] at cm
    have HAP := Lib.hid hap'
    have CG := Lib.hid cg
    have cc0 : (0 : Int) ≤ (cap : Int) := by omega
    clear hap hap' cg hcap
    have OW := Lib.hid (World.ownsRow_made (e := 53) (base := w.heap.size) (size := 2) w.drew (Builtin.zeroCells (Value.cells (.agg #[.int .i64 0, .int .i64 0])) n ++ Builtin.zeroCells (Value.cells (.agg #[.int .i64 0, .int .i64 0])) (cap - n)) cap (by simp) cm.out (by rw [Array.size_append, size_zeroCells, size_zeroCells, show (Value.cells (.agg #[.int .i64 0, .int .i64 0])).size = 2 from rfl]; have := CG.out; omega))
    go_wp2_with (at_builtin; refine Lib.wpList_append_run _ rfl _ _ 22 3 rfl _ _ rfl rfl _ _ (HAP.out _) ?_)
    go_ret
    exact ⟨_, rfl, OW.out, (bd0 w).trans ((Below.refl _ _).alloc (by simp) _)⟩
end Go.Proofs.Ytlfjopjfolbmiaa
