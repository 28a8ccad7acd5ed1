/-
  A kid put ahead of a leaf's kids; words for NodeWay.
-/
import Derived.Test.YtkbdcbcjbgbglaaNm
namespace Go.Proofs.Ytkbdcbcjbgbglaa
open Go.RowKit
set_option linter.unusedVariables false
theorem wp_append_rl {α : Type} {g : α → Value} (hg : ∀ x, (g x).oneCell' = true) {w : World} {o : Oper} {a : Act} {K : Act → World → Prop} {Q : Exit → Act → World → Prop} {T e : TypeId} (hT : ET T e) (hgd : o.guard = none) (s x : Operand)
    (ho : o.op = .call { callee := .builtin .append, args := #[s, x], argTypes := #[T, T] }) (base : Nat) (v : Value) (n : Nat) (zs ys : List α) (B : Option Addr) (d m : Nat)
    (hs : a.eval s = v) (hown : w.ownsRow base e 1 v n (zs.map g)) (hD : Rl g w B d ys) (hm : m = ys.length) (hx : a.eval x = .slice B m d) (hb : n + m ≤ 4000000) (hbase : base ≤ w.heap.size)
    (h : ∀ v' w', w'.ownsRow base e 1 v' (n + m) ((zs ++ ys).map g) → w.grownBy w' v.ownBlock → K (a.put o.dst v') w') : o.wp Try.prog a w K Q := by
  obtain ⟨hu, i0, z, b, hi, hz0, hz1, hz2, hb16, hzc⟩ := hT
  subst hm
  rcases B with _ | A
  · have h0 : ys = [] := by
      rcases Nat.eq_zero_or_pos ys.length with h0 | h0
      · exact List.eq_nil_of_length_eq_zero h0
      · obtain ⟨b, off, e, _⟩ := hD.2 h0
        cases e
    subst h0
    have hrun := run_append_nilcap (P := Try.prog) (w := w) base T o.type e i0 1 d hu hi v n (zs.map g) hown
    unfold Oper.wp
    simp at hx
    simp [execOp, ho, resolve, invoke, builtin, hs, hx, hrun, Result.andThen]
    exact h v w (by simpa using hown) (World.grownBy.refl _ _)
  · have hbb : (n + ys.length) * b ≤ 140737488355328 := Nat.le_trans (Nat.mul_le_mul hb hb16) (by decide)
    refine wp_append_own _ s x T ho base e i0 z 1 b hu hi hz0 hz1 hz2 hzc (by decide) v n (zs.map g) hs hown A ys.length d (ys.map g) hx (by simp) (fun j u hj => ?_) (fun u hu => by obtain ⟨y, _, rfl⟩ := List.mem_map.1 hu; exact hg y) (by unfold maxLen; omega) hbb hbase fun v' w' h1 h2 _ => h v' w' (by rw [List.map_append]; exact h1) h2
    rw [List.getElem?_map] at hj
    obtain ⟨y, hy, rfl⟩ := Option.map_eq_some_iff.1 hj
    obtain ⟨b', off, e, _, hc⟩ := hD.cell hy
    injection e with e
    subst e
    rw [Addr.add_lit]
    exact hc
theorem own_of_row0 {w : World} {g base n : Nat} {T : TypeId} {cur : Array Value} (h : w.heap[g]? = some (.cells cur T (0, 0))) (hs : cur.size = n) (hb : base ≤ g) (hm : n ≤ maxLen) : w.ownsRow base T 1 (.slice (some ⟨g, 0, none⟩) n n) n cur.toList :=
  ⟨by rw [Array.length_toList, hs, Nat.mul_one], .inr ⟨g, n, cur, rfl, hb, h, Nat.le_refl _, hm, by rw [hs, Nat.mul_one], List.take_of_length_le (by rw [Array.length_toList, hs, Nat.mul_one]; exact Nat.le_refl _)⟩⟩
theorem wp_append_full {w : World} {o : Oper} {a : Act} {K : Act → World → Prop} {Q : Exit → Act → World → Prop} (s x : Operand)
    (ho : o.op = .call { callee := .builtin .append, args := #[s, x], argTypes := #[23, 23] }) (q m d : Nat) (y : Int) (ys : List Int) (B : Option Addr) 
    (hs : a.eval s = .slice (some ⟨q, 0, none⟩) 1 1) (hx : a.eval x = .slice B m d) (hrow : w.heap[q]? = some (.cells #[.int .i64 y] 3 (0, 0))) (hD : Rl nv w B d ys) (hm : m = ys.length) (hb : m ≤ 13)
    (h : ∀ A' c' w', Rl nv w' A' c' (y :: ys) → Below w.heap.size w w' → (∀ b o, A' = some ⟨b, o, none⟩ → q ≤ b) → K (a.put o.dst (.slice A' (1 + m) c')) w') : o.wp Try.prog a w K Q := by
  obtain ⟨hu, i0, z, b, hi, hz0, hz1, hz2, hb16, hzc⟩ := et_i
  have hq := heap_lt hrow
  have hown := own_of_row0 (n := 1) hrow rfl (Nat.le_refl q) (by unfold maxLen; omega)
  rcases B with _ | A
  · have h0 : ys = [] := by
      rcases Nat.eq_zero_or_pos ys.length with h0 | h0
      · exact List.eq_nil_of_length_eq_zero h0
      · obtain ⟨b, off, e, _⟩ := hD.2 h0
        cases e
    subst h0
    subst hm
    have hrun := run_append_nilcap (P := Try.prog) (w := w) q 23 o.type 3 i0 1 d hu hi _ 1 _ hown
    unfold Oper.wp
    simp only [List.length_nil] at hx h
    simp [execOp, ho, resolve, invoke, builtin, hs, hx, hrun, Result.andThen]
    exact h (some ⟨q, 0, none⟩) 1 w (rl_of_row (xs := [y]) hrow 1 (by simp)) (Below.refl _ _) (fun b o e => by injection e with e; injection e with e; omega)
  · have hnews : ∀ j u, (ys.map nv)[j]? = some u → w.cell? (A.add j) = some u := fun j u hj => by
      rw [List.getElem?_map] at hj
      obtain ⟨y', hy, rfl⟩ := Option.map_eq_some_iff.1 hj
      obtain ⟨b', off, e, _, hc⟩ := hD.cell hy
      injection e with e
      subst e
      rw [Addr.add_lit]
      exact hc
    by_cases h0 : m = 0
    · have h1 : ys = [] := List.eq_nil_of_length_eq_zero (by omega)
      subst h1 h0
      have hrun := run_append_room (P := Try.prog) (w := w) 23 o.type 3 i0 hu hi q 1 1 #[.int .i64 y] hrow A 0 d [] (by simp) (by simp) (by simp) (by omega) (by simp [hz1])
      have hsr : (w.setRow q ((#[Value.int .i64 y].toList.take (1 * i0.size) ++ [] ++ #[Value.int .i64 y].toList.drop (1 * i0.size + ([] : List Value).length)).toArray)).heap[q]? = some (.cells #[.int .i64 y] 3 (0, 0)) := by
        have := setRow_heap w q #[.int .i64 y] ((#[Value.int .i64 y].toList.take (1 * i0.size) ++ [] ++ #[Value.int .i64 y].toList.drop (1 * i0.size + ([] : List Value).length)).toArray) 3 _ hrow
        rw [this]
        simp [hz1]
      generalize hW : w.setRow q ((#[Value.int .i64 y].toList.take (1 * i0.size) ++ [] ++ #[Value.int .i64 y].toList.drop (1 * i0.size + ([] : List Value).length)).toArray) = W at hrun hsr
      unfold Oper.wp
      simp [execOp, ho, resolve, invoke, builtin, hs, hx, hrun, Result.andThen]
      refine h (some ⟨q, 0, none⟩) 1 W (rl_of_row (xs := [y]) hsr 1 (by simp)) ?_ (fun b o e => by injection e with e; injection e with e; omega)
      rw [← hW]
      refine ⟨rfl, rfl, rfl, by simp [World.setRow], fun k hk => ?_⟩
      by_cases hkq : k = q
      · subst hkq; rw [hW, hsr, hrow]
      · exact setRow_other w q k _ hkq
    · have hfit : Builtin.nextslicecap (1 + m) 1 * i0.bytes ≤ 281474976710656 := by
        have h1 : ∀ k, k < 14 → Builtin.nextslicecap (1 + k) 1 ≤ 14 := by decide
        have h2 := h1 m (by omega)
        exact Nat.le_trans (Nat.mul_le_mul h2 (by rw [hz2]; exact hb16)) (by decide)
      have hrun := run_append_grow (P := Try.prog) (w := w) 23 o.type 3 i0 z hu hi hz0 ⟨q, 0, none⟩ 1 1 [.int .i64 y] (by simp [hz1]) (fun j v hj => by
          rw [Addr.add_lit, Nat.zero_add]
          exact row_c hrow (by simpa using hj)) A m d (ys.map nv) (by simp [hz1, hm]) hnews (by omega) (by omega) hfit
      have hcap := grownCap_ge w (1 + m) 1 3
      generalize grownCap w (1 + m) 1 3 = cap at hrun hcap
      unfold Oper.wp
      simp only [ho, resolve, invoke, builtin, execOp, Sem.run_bind, Sem.run_pure, Result.andThen_ok, List.map_toArray, List.map_cons, List.map_nil, hs, hx, hrun]
      refine h (some ⟨w.heap.size, 0, none⟩) cap _ ?_ ((bd0 w).trans (bda w.drew _)) (fun b o e => by injection e with e; injection e with e; omega)
      refine ⟨by simp; omega, fun _ => ⟨w.heap.size, 0, rfl, by simp, fun j x_ hj => ?_⟩⟩
      rw [Nat.zero_add]
      refine row_c (heap_alloc_new w.drew _) ?_
      have hj2 := (List.getElem?_eq_some_iff.1 hj).1
      rw [Array.getElem?_append_left (by simp; simp at hj2; omega), List.append_toArray, List.getElem?_toArray]
      cases j with
      | zero => simp at hj; subst hj; rfl
      | succ j =>
        have hj3 : ys[j]? = some x_ := by simpa using hj
        simp [hj3]
theorem Rl.belowk {α : Type} {g : α → Value} {w w' : World} {A : Option Addr} {c k : Nat} {xs : List α} (h : Rl g w A c xs) (hb : Below k w w') (hk : w.heap.size ≤ k := by exact Nat.le_refl _) : Rl g w' A c xs := h.below (hb.mono hk)
def ubN (a : List UInt8) (ks : List (List UInt8)) : Nat := lbK a ks + (if thereB a ks then 1 else 0)
theorem ubN_le (a : List UInt8) (ks : List (List UInt8)) : ubN a ks ≤ ks.length := by
  unfold ubN
  cases hb : thereB a ks
  · simpa using lbK_le a ks
  · have := there_lt hb; simp; omega
theorem child_ub (a : List UInt8) (ks : List (List UInt8)) : childI false a ks = (ubN a ks : Int) := by
  unfold childI ubN
  cases thereB a ks <;> simp
theorem ub_spec {ks : List (List UInt8)} (hs : Srt ks) {a x : List UInt8} {m : Nat} (hx : ks[m]? = some x) : (decide (x < a) || (x == a)) = decide (m < ubN a ks) := by
  by_cases h : m < ubN a ks
  · rw [decide_eq_true h]
    by_cases h1 : m < lbK a ks
    · rw [decide_eq_true (lbK_below hx h1)]; rfl
    · unfold ubN at h
      cases hb : thereB a ks
      · rw [hb] at h; simp at h; omega
      · rw [hb] at h
        simp at h
        obtain rfl : m = lbK a ks := by omega
        rw [there_spec.1 hb] at hx
        injection hx with hx
        rw [hx]; simp
  · have h2 := srt_above (key := a) hs hx (by unfold ubN at h; omega)
    rw [decide_eq_false h, decide_eq_false (fun h3 => lt_ir a (lt_tr h2 h3))]
    have : x ≠ a := fun e => lt_ir a (by rw [e] at h2; exact h2)
    simpa using this
theorem ub_mono {ks : List (List UInt8)} (hs : Srt ks) {a b : List UInt8} (h : ¬ b < a) : ubN a ks ≤ ubN b ks := by
  rcases Nat.lt_or_ge (ubN b ks) (ubN a ks) with h1 | h1
  · exfalso
    obtain ⟨x, hx⟩ := get_lt (xs := ks) (k := ubN b ks) (Nat.lt_of_lt_of_le h1 (ubN_le a ks))
    have h2 := ub_spec (a := a) hs hx
    rw [decide_eq_true h1] at h2
    have h3 := srt_above (key := b) hs hx (by unfold ubN; omega)
    simp only [Bool.or_eq_true, decide_eq_true_eq, beq_iff_eq] at h2
    rcases h2 with h2 | rfl
    · exact h (lt_tr h3 h2)
    · exact h h3
  · exact h1
end Go.Proofs.Ytkbdcbcjbgbglaa
