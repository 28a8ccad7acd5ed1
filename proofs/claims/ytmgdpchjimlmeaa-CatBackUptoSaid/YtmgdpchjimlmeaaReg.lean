/-
  A region that draws its order, by what holds behind each of its operations (an invariant): no order is walked.
-/
import Derived.Test.YtmgdpchjimlmeaaMem
import Derived.Orders
import Derived.Laws.Rows
namespace Go.Proofs.Ytmgdpchjimlmeaa
open Go.RowKit
section
variable {P : Program} {ops : Array Oper} {Q : Exit → Act → World → Prop} {md : Region.Mode}
/-- How many have not come up. -/
def still (l : Array Bool) : Nat := l.toList.count false
theorem still_set {l : Array Bool} {i : Nat} (h : l.getD i true = false) : still (l.setIfInBounds i true) + 1 = still l := by
  have hlt : i < l.size := by
    rcases Nat.lt_or_ge i l.size with h' | h'
    · exact h'
    · simp [Array.getElem?_eq_none h'] at h
  obtain ⟨l⟩ := l
  simp only [still, List.setIfInBounds_toArray] at *
  simp at hlt
  simp [hlt] at h
  have : ∀ (l : List Bool) (i : Nat) (h : i < l.length), l[i] = false → (l.set i true).count false + 1 = l.count false := by
    intro l
    induction l with
    | nil => intro i h; simp at h
    | cons x xs ih =>
      intro i hi hx
      cases i with
      | zero => simp at hx; subst hx; simp
      | succ i =>
        simp at hx hi
        have := ih i hi hx
        simp only [List.set_cons_succ, List.count_cons]
        omega
  exact this l i hlt h
/-- What holds at the start, and stands behind each operation that may come up, holds at the end. -/
theorem wpAny_inv (I : Array Bool → Act → World → Prop)
    (step : ∀ l a w i, I l a w → i ∈ Region.ready md ops l → wpOp P ops Q i (fun a' w' => I (l.setIfInBounds i true) a' w') a w)
    (done : ∀ l a w, I l a w → Region.ready md ops l = [] → Q .normal a w) :
    ∀ (fuel : Nat) (l : Array Bool) (a : Act) (w : World), I l a w → still l ≤ fuel → wpAny P md ops Q fuel l a w
  | 0, l, a, w, h, hf => by
    have hr : Region.ready md ops l = [] := by
      rcases hr : Region.ready md ops l with _ | ⟨i, is⟩
      · rfl
      · have := still_set (mem_ready.1 (show i ∈ Region.ready md ops l by rw [hr]; simp)).1
        omega
    exact ⟨hr, done l a w h hr⟩
  | fuel + 1, l, a, w, h, hf => by
    refine ⟨fun hr => done l a w h hr, fun i hi => ?_⟩
    refine wpOp_mono (fun a' w' h' => wpAny_inv I step done fuel _ a' w' h' ?_) (step l a w i h hi)
    have := still_set (mem_ready.1 hi).1
    omega
/-- Every edge leads back. -/
def backB (md : Region.Mode) (ops : Array Oper) : Bool := (List.range ops.size).all fun i => ((ops[i]?).map fun o => o.after.all fun e => !Region.binds md e || decide (e.on < i)).getD true
theorem all_of_back (hb : backB md ops = true) {l : Array Bool} (hs : l.size = ops.size) (hr : Region.ready md ops l = []) : ∀ i, i < ops.size → l.getD i false = true := by
  intro i
  induction i using Nat.strongRecOn with
  | ind i ih =>
    intro hi
    cases hg : l.getD i false with
    | true => rfl
    | false =>
      have hmem : i ∈ Region.ready md ops l := by
        refine mem_ready.2 ⟨?_, ops[i], by simp [hi], fun e he hbi => ?_⟩
        · have : i < l.size := by omega
          simp [this] at hg ⊢
          exact hg
        · simp only [backB, List.all_eq_true, List.mem_range] at hb
          have h1 := hb i hi
          simp only [Array.getElem?_eq_getElem hi, Option.map_some, Option.getD_some, Array.all_eq_true_iff_forall_mem] at h1
          have h2 := h1 e he
          simp only [hbi, Bool.not_true, Bool.false_or, decide_eq_true_eq] at h2
          exact ih e.on h2 (by omega)
      rw [hr] at hmem; cases hmem
/-- Number i waits for number k. -/
def waitsB (md : Region.Mode) (ops : Array Oper) (i k : Nat) : Bool := ((ops[i]?).map fun o => o.after.any fun e => Region.binds md e && e.on == k).getD false
theorem waits_spec {i k : Nat} (h : waitsB md ops i k = true) {l : Array Bool} (hr : i ∈ Region.ready md ops l) : l.getD k false = true := by
  obtain ⟨_, o, ho, hall⟩ := mem_ready.1 hr
  simp only [waitsB, ho, Option.map_some, Option.getD_some, Array.any_eq_true'] at h
  obtain ⟨e, he, h1⟩ := h
  simp only [Bool.and_eq_true, beq_iff_eq] at h1
  have := hall e he h1.1
  rw [h1.2] at this
  exact this
end
theorem wpOp_one {P : Program} {ops : Array Oper} {Q : Exit → Act → World → Prop} {i : Nat} {o : Oper} {K : Act → World → Prop} {a : Act} {w : World} (hi : ops[i]? = some o) (hg : o.guard = none) (h : o.wp P a w K Q) : wpOp P ops Q i K a w := by
  unfold wpOp
  rw [hi]
  simp only [Region.wanted, hg, if_true]
  exact .inl h
/-! ### What stays -/
/-- Every digit stays. -/
def Kept (w w' : World) : Prop := w.heap.size ≤ w'.heap.size ∧ ∀ (b o : Nat) (n : Int), w.cell? ⟨b, o, none⟩ = some (.int .u32 n) → w'.cell? ⟨b, o, none⟩ = some (.int .u32 n)
theorem Kept.refl (w : World) : Kept w w := ⟨Nat.le_refl _, fun _ _ _ h => h⟩
theorem Kept.trans {a b c : World} (h : Kept a b) (k : Kept b c) : Kept a c := ⟨Nat.le_trans h.1 k.1, fun b o n e => k.2 b o n (h.2 b o n e)⟩
theorem cell_lt {w : World} {b o : Nat} {v : Value} (h : w.cell? ⟨b, o, none⟩ = some v) : b < w.heap.size := by
  rcases Nat.lt_or_ge b w.heap.size with h' | h'
  · exact h'
  · simp [World.cell?, Array.getElem?_eq_none h'] at h
theorem Kept.below {w w' : World} (h : Below w.heap.size w w') : Kept w w' := ⟨h.size, fun b o _n e => (h.cell (p := ⟨b, o, none⟩) (cell_lt e)).trans e⟩
theorem Dg.kept {w w' : World} {A : Option Addr} {c : Nat} {xs : List Nat} (h : Dg w A c xs) (hk : Kept w w') : Dg w' A c xs :=
  ⟨h.1, h.2.1, fun h0 => by
    obtain ⟨b, off, e, hb, hc⟩ := h.2.2 h0
    exact ⟨b, off, e, Nat.lt_of_lt_of_le hb hk.1, fun j hj => hk.2 _ _ _ (hc j hj)⟩⟩
/-- Block g alone may be another one. -/
structure Only (g : Nat) (w w' : World) : Prop where
  os : w'.os = w.os
  tape : w'.tape = w.tape
  output : w'.output = w.output
  size : w'.heap.size = w.heap.size
  block : ∀ k, k ≠ g → w'.heap[k]? = w.heap[k]?
theorem Only.setCell {g : Nat} {w w' : World} (h : Only g w w') (i : Nat) (v : Value) : Only g w (w'.setCell ⟨g, i, none⟩ v) :=
  ⟨h.os, h.tape, h.output, by simpa using h.size, fun k hk => (heap_setCell_other _ _ _ _ (by simpa using hk)).trans (h.block k hk)⟩
theorem Only.refl (g : Nat) (w : World) : Only g w w := ⟨rfl, rfl, rfl, rfl, fun _ _ => rfl⟩
theorem Only.below {g N : Nat} {W w w' : World} (h : Only g w w') (hb : Below N W w) (hg : N ≤ g) : Below N W w' :=
  ⟨h.os.trans hb.os, h.tape.trans hb.tape, h.output.trans hb.output, by rw [h.size]; exact hb.size, fun k hk => (h.block k (by omega)).trans (hb.block k hk)⟩
theorem Only.kept {g : Nat} {w w' : World} (h : Only g w w') {zs : Array Value} {T : TypeId} {fr : Nat × Nat} (hg : w.heap[g]? = some (.cells zs T fr)) (hz : ∀ (i : Nat) (n : Int), zs[i]? ≠ some (.int .u32 n)) : Kept w w' := by
  refine ⟨by rw [h.size]; exact Nat.le_refl _, fun b o _n e => ?_⟩
  by_cases hb : b = g
  · subst hb
    rw [cell_of_row _ _ _ _ _ _ hg] at e
    exact absurd e (hz _ _)
  · rw [← e]
    simp only [World.cell?, h.block b hb]
/-! ### Two calls whose results go into two new boxes -/
/-- One half: loaded, called, made, stored. -/
def Half (W : World) (lt ct xt : Tmp) (v : Value) (R : Value → World → Prop) (zs : Array Value) (T : TypeId) (full : Value → Array Value) (bl bc ba bs : Bool) (a : Act) (w : World) (g : Nat) (u : Value) : Prop :=
  (bl = true → a.tmps.getD lt undef = v) ∧ (bc = true → a.tmps.getD ct undef = u ∧ R u w) ∧
  (ba = true → a.tmps.getD xt undef = .pointer (some ⟨g, 0, none⟩) ∧ W.heap.size ≤ g ∧ g < w.heap.size ∧ w.heap[g]? = some (.cells (if bs then full u else zs) T (0, 0)))
section
variable {W : World} {lt ct xt : Tmp} {v : Value} {R : Value → World → Prop} {zs : Array Value} {T : TypeId} {full : Value → Array Value} {bl bc ba bs : Bool} {a a' : Act} {w w' : World} {g : Nat} {u : Value}
theorem Half.step (h : Half W lt ct xt v R zs T full bl bc ba bs a w g u) (hR : ∀ u w w', R u w → Kept w w' → R u w') (hk : Kept w w')
    (h1 : a'.tmps.getD lt undef = a.tmps.getD lt undef) (h2 : a'.tmps.getD ct undef = a.tmps.getD ct undef) (h3 : a'.tmps.getD xt undef = a.tmps.getD xt undef)
    (hg : ba = true → w'.heap[g]? = w.heap[g]?) : Half W lt ct xt v R zs T full bl bc ba bs a' w' g u :=
  ⟨fun e => h1.trans (h.1 e), fun e => ⟨h2.trans (h.2.1 e).1, hR _ _ _ (h.2.1 e).2 hk⟩, fun e => ⟨h3.trans (h.2.2 e).1, (h.2.2 e).2.1, Nat.lt_of_lt_of_le (h.2.2 e).2.2.1 hk.1, (hg e).trans (h.2.2 e).2.2.2⟩⟩
theorem put_same (a : Act) (t : Tmp) (v : Value) (h : t < a.tmps.size) : (a.put (some t) v).tmps.getD t undef = v := by simp [Act.put, h]
theorem put_other (a : Act) (t s : Tmp) (v : Value) (h : t ≠ s) : (a.put (some t) v).tmps.getD s undef = a.tmps.getD s undef := by simp [Act.put, Array.getElem?_setIfInBounds_ne h]
/-- The frame: all slots but six are as they were. -/
def Fr6 (D : List Tmp) (a0 a : Act) : Prop := a.defers = a0.defers ∧ a.tmps.size = a0.tmps.size ∧ ∀ j, j ∉ D → a.tmps.getD j undef = a0.tmps.getD j undef
theorem Fr6.put {D : List Tmp} {a0 a : Act} (h : Fr6 D a0 a) {t : Tmp} (ht : t ∈ D) (v : Value) : Fr6 D a0 (a.put (some t) v) :=
  ⟨h.1, by simp [Act.put, h.2.1], fun j hj => (put_other a t j v (fun e => hj (e ▸ ht))).trans (h.2.2 j hj)⟩
end
theorem act_ext {a b : Act} (hd : a.defers = b.defers) (hs : a.tmps.size = b.tmps.size) (h : ∀ j, a.tmps.getD j undef = b.tmps.getD j undef) : a = b := by
  obtain ⟨S, D⟩ := a
  obtain ⟨T, E⟩ := b
  simp only at hd hs h
  subst hd
  congr 1
  refine Array.ext hs (fun j h1 h2 => ?_)
  have := h j
  simpa [h1, h2] using this
theorem put_size (a : Act) (t : Tmp) (v : Value) : (a.put (some t) v).tmps.size = a.tmps.size := by simp [Act.put]
theorem put_defers (a : Act) (t : Tmp) (v : Value) : (a.put (some t) v).defers = a.defers := rfl
theorem put_at {a b : Act} {t : Tmp} {v : Value} (j : Tmp) (ht : t < b.tmps.size) (he : a.tmps.getD t undef = v) (h : j ≠ t → a.tmps.getD j undef = b.tmps.getD j undef) : a.tmps.getD j undef = (b.put (some t) v).tmps.getD j undef := by
  by_cases hj : t = j
  · subst hj; rw [put_same _ _ _ ht]; exact he
  · rw [put_other _ _ _ _ hj]; exact h (Ne.symm hj)
theorem Fr6.eq {l1 c1 l2 c2 x y : Tmp} {a0 a : Act} (h : Fr6 [l1, c1, l2, c2, x, y] a0 a) {v1 u1 v2 u2 p1 p2 : Value}
    (hin : ([l1, c1, l2, c2, x, y].all fun t => decide (t < a0.tmps.size)) = true)
    (e1 : a.tmps.getD l1 undef = v1) (e2 : a.tmps.getD c1 undef = u1) (e3 : a.tmps.getD l2 undef = v2) (e4 : a.tmps.getD c2 undef = u2) (e5 : a.tmps.getD x undef = p1) (e6 : a.tmps.getD y undef = p2) :
    a = (((((a0.put (some l1) v1).put (some c1) u1).put (some l2) v2).put (some c2) u2).put (some x) p1).put (some y) p2 := by
  simp only [List.all_cons, List.all_nil, Bool.and_true, Bool.and_eq_true, decide_eq_true_eq] at hin
  obtain ⟨i1, i2, i3, i4, i5, i6⟩ := hin
  refine act_ext (by simp only [put_defers]; exact h.1) (by simp only [put_size]; exact h.2.1) (fun j => ?_)
  refine put_at j (by simp only [put_size]; exact i6) e6 (fun n6 => put_at j (by simp only [put_size]; exact i5) e5 (fun n5 => put_at j (by simp only [put_size]; exact i4) e4 (fun n4 => put_at j (by simp only [put_size]; exact i3) e3 (fun n3 => put_at j (by simp only [put_size]; exact i2) e2 (fun n2 => put_at j i1 e1 (fun n1 => h.2.2 j ?_))))))
  simp only [List.mem_cons, List.not_mem_nil, or_false, not_or]
  exact ⟨n1, n2, n3, n4, n5, n6⟩
theorem getD_set (l : Array Bool) (i j : Nat) (hi : i < l.size) : (l.setIfInBounds i true).getD j false = (if i = j then true else l.getD j false) := by
  by_cases h : i = j
  · subst h; simp [hi]
  · rw [if_neg h]; exact getD_set_ne false h
theorem Half.flags {W : World} {lt ct xt : Tmp} {v : Value} {R : Value → World → Prop} {zs : Array Value} {T : TypeId} {full : Value → Array Value} {bl bc ba bs bl' bc' ba' bs' : Bool} {a : Act} {w : World} {g : Nat} {u : Value}
    (h : Half W lt ct xt v R zs T full bl bc ba bs a w g u) (e1 : bl' = bl) (e2 : bc' = bc) (e3 : ba' = ba) (e4 : bs' = bs) : Half W lt ct xt v R zs T full bl' bc' ba' bs' a w g u := by
  subst e1 e2 e3 e4; exact h
/-- x, y := f(p), g(q): two loads, two calls, two boxes, two stores, in whatever order. -/
theorem two_calls {P : Program} {ops : Array Oper} {Q : Exit → Act → World → Prop} {id : Nat} {a0 : Act} {W : World} (hm : P.follows .mixedOrders = true)
    (l1 c1 l2 c2 x y : Tmp) (v1 v2 : Value) (R1 R2 : Value → World → Prop) (zs : Array Value) (T : TypeId) (full : Value → Array Value)
    (hsz : ops.size = 8) (hback : backB .any ops = true)
    (hw : (waitsB .any ops 1 0 && waitsB .any ops 3 2 && waitsB .any ops 6 1 && waitsB .any ops 6 4 && waitsB .any ops 7 3 && waitsB .any ops 7 5) = true)
    (hnd : [l1, c1, l2, c2, x, y].Nodup) (hin : ([l1, c1, l2, c2, x, y].all fun t => decide (t < a0.tmps.size)) = true)
    (hz : ∀ (i : Nat) (n : Int), zs[i]? ≠ some (.int .u32 n))
    (k1 : ∀ u w w', R1 u w → Kept w w' → R1 u w') (k2 : ∀ u w w', R2 u w → Kept w w' → R2 u w')
    (s0 : ∀ a w K, Fr6 [l1, c1, l2, c2, x, y] a0 a → Below W.heap.size W w → K (a.put (some l1) v1) w → wpOp P ops Q 0 K a w)
    (s2 : ∀ a w K, Fr6 [l1, c1, l2, c2, x, y] a0 a → Below W.heap.size W w → K (a.put (some l2) v2) w → wpOp P ops Q 2 K a w)
    (s1 : ∀ a w K, Fr6 [l1, c1, l2, c2, x, y] a0 a → Below W.heap.size W w → a.tmps.getD l1 undef = v1 → (∀ u w', R1 u w' → Below w.heap.size w w' → K (a.put (some c1) u) w') → wpOp P ops Q 1 K a w)
    (s3 : ∀ a w K, Fr6 [l1, c1, l2, c2, x, y] a0 a → Below W.heap.size W w → a.tmps.getD l2 undef = v2 → (∀ u w', R2 u w' → Below w.heap.size w w' → K (a.put (some c2) u) w') → wpOp P ops Q 3 K a w)
    (s4 : ∀ a w K, Fr6 [l1, c1, l2, c2, x, y] a0 a → K (a.put (some x) (.pointer (some ⟨w.heap.size, 0, none⟩))) (w.alloc (.cells zs T)) → wpOp P ops Q 4 K a w)
    (s5 : ∀ a w K, Fr6 [l1, c1, l2, c2, x, y] a0 a → K (a.put (some y) (.pointer (some ⟨w.heap.size, 0, none⟩))) (w.alloc (.cells zs T)) → wpOp P ops Q 5 K a w)
    (s6 : ∀ a w K g u, Fr6 [l1, c1, l2, c2, x, y] a0 a → a.tmps.getD x undef = .pointer (some ⟨g, 0, none⟩) → a.tmps.getD c1 undef = u → R1 u w → w.heap[g]? = some (.cells zs T (0, 0)) → (∀ w', w'.heap[g]? = some (.cells (full u) T (0, 0)) → Only g w w' → K a w') → wpOp P ops Q 6 K a w)
    (s7 : ∀ a w K g u, Fr6 [l1, c1, l2, c2, x, y] a0 a → a.tmps.getD y undef = .pointer (some ⟨g, 0, none⟩) → a.tmps.getD c2 undef = u → R2 u w → w.heap[g]? = some (.cells zs T (0, 0)) → (∀ w', w'.heap[g]? = some (.cells (full u) T (0, 0)) → Only g w w' → K a w') → wpOp P ops Q 7 K a w)
    (hB : Below W.heap.size W { (W : World) with drawn := W.drawn + 1 })
    (fin : ∀ a w g1 g2 u1 u2, Fr6 [l1, c1, l2, c2, x, y] a0 a → Below W.heap.size W w → Half W l1 c1 x v1 R1 zs T full true true true true a w g1 u1 → Half W l2 c2 y v2 R2 zs T full true true true true a w g2 u2 → g1 ≠ g2 → Q .normal a w) :
    (Code.region id ops true).wp P Q a0 W := by
  simp only [Bool.and_eq_true] at hw
  obtain ⟨⟨⟨⟨⟨w10, w32⟩, w61⟩, w64⟩, w73⟩, w75⟩ := hw
  simp only [List.all_cons, List.all_nil, Bool.and_true, Bool.and_eq_true, decide_eq_true_eq] at hin
  obtain ⟨i1, i2, i3, i4, i5, i6⟩ := hin
  simp only [List.nodup_cons, List.mem_cons, List.not_mem_nil, or_false, not_or, not_false_eq_true, List.nodup_nil, and_true] at hnd
  obtain ⟨⟨n12, n13, n14, n15, n16⟩, ⟨n23, n24, n25, n26⟩, ⟨n34, n35, n36⟩, ⟨n45, n46⟩, n56⟩ := hnd
  generalize hD : [l1, c1, l2, c2, x, y] = D at *
  have m1 : l1 ∈ D := by rw [← hD]; simp
  have m2 : c1 ∈ D := by rw [← hD]; simp
  have m3 : l2 ∈ D := by rw [← hD]; simp
  have m4 : c2 ∈ D := by rw [← hD]; simp
  have m5 : x ∈ D := by rw [← hD]; simp
  have m6 : y ∈ D := by rw [← hD]; simp
  refine wp_region_any hm (wpAny_inv (fun l a w => l.size = 8 ∧ Fr6 D a0 a ∧ Below W.heap.size W w ∧ ∃ g1 g2 u1 u2,
    Half W l1 c1 x v1 R1 zs T full (l.getD 0 false) (l.getD 1 false) (l.getD 4 false) (l.getD 6 false) a w g1 u1 ∧
    Half W l2 c2 y v2 R2 zs T full (l.getD 2 false) (l.getD 3 false) (l.getD 5 false) (l.getD 7 false) a w g2 u2 ∧
    (l.getD 4 false = true → l.getD 5 false = true → g1 ≠ g2) ∧ (l.getD 6 false = true → l.getD 4 false = true) ∧ (l.getD 7 false = true → l.getD 5 false = true) ∧
    (l.getD 6 false = true → l.getD 1 false = true) ∧ (l.getD 7 false = true → l.getD 3 false = true)) ?_ ?_ _ _ _ _ ?_ ?_)
  · rintro l a w i ⟨hl, hF, hbw, g1, g2, u1, u2, h1, h2, hne, h64, h75, h61, h73⟩ hi
    have hiu := (mem_ready.1 hi).1
    have hi8 : i < 8 := by
      rcases Nat.lt_or_ge i l.size with h' | h'
      · omega
      · simp [Array.getElem?_eq_none h'] at hiu
    have hif : l.getD i false = false := by
      have : i < l.size := by omega
      simp [this] at hiu ⊢; exact hiu
    have sz : ∀ j, (l.setIfInBounds i true).getD j false = (if i = j then true else l.getD j false) := fun j => getD_set l i j (by omega)
    have hl' : (l.setIfInBounds i true).size = 8 := by simp [hl]
    have ps : a.tmps.size = a0.tmps.size := hF.2.1
    have hi' : i = 0 ∨ i = 1 ∨ i = 2 ∨ i = 3 ∨ i = 4 ∨ i = 5 ∨ i = 6 ∨ i = 7 := by omega
    rcases hi' with rfl | rfl | rfl | rfl | rfl | rfl | rfl | rfl
    · refine s0 a w _ hF hbw ⟨hl', hF.put m1 _, hbw, g1, g2, u1, u2, ?_, ?_, by simpa [sz] using hne, by simpa [sz] using h64, by simpa [sz] using h75, by simpa [sz] using h61, by simpa [sz] using h73⟩
      · exact ⟨fun _ => put_same _ _ _ (by rw [ps]; exact i1), fun e => ⟨(put_other _ _ _ _ n12).trans (h1.2.1 (by simpa [sz] using e)).1, (h1.2.1 (by simpa [sz] using e)).2⟩, fun e => ⟨(put_other _ _ _ _ n15).trans (h1.2.2 (by simpa [sz] using e)).1, (h1.2.2 (by simpa [sz] using e)).2.1, (h1.2.2 (by simpa [sz] using e)).2.2.1, by simpa [sz] using (h1.2.2 (by simpa [sz] using e)).2.2.2⟩⟩
      · exact (h2.step k2 (Kept.refl _) (put_other _ _ _ _ n13) (put_other _ _ _ _ n14) (put_other _ _ _ _ n16) (fun _ => rfl)).flags (by simp [sz]) (by simp [sz]) (by simp [sz]) (by simp [sz])
    · have hnot : l.getD 6 false = false := by cases h6 : l.getD 6 false with | false => rfl | true => exact absurd (h61 h6) (by rw [hif]; simp)
      refine s1 a w _ hF hbw (h1.1 (waits_spec w10 hi)) (fun u w' hu hb => ⟨hl', hF.put m2 _, hbw.trans (hb.mono hbw.size), g1, g2, u, u2, ?_, ?_, by simpa [sz] using hne, by simpa [sz] using h64, by simpa [sz] using h75, by simp [sz], by simpa [sz] using h73⟩)
      · exact ⟨fun e => (put_other _ _ _ _ (Ne.symm n12)).trans (h1.1 (by simpa [sz] using e)), fun _ => ⟨put_same _ _ _ (by rw [ps]; exact i2), hu⟩, fun e => ⟨(put_other _ _ _ _ n25).trans (h1.2.2 (by simpa [sz] using e)).1, (h1.2.2 (by simpa [sz] using e)).2.1, Nat.lt_of_lt_of_le (h1.2.2 (by simpa [sz] using e)).2.2.1 hb.size, by simpa [sz, hnot] using (hb.block _ (h1.2.2 (by simpa [sz] using e)).2.2.1).trans (h1.2.2 (by simpa [sz] using e)).2.2.2⟩⟩
      · exact (h2.step k2 (Kept.below hb) (put_other _ _ _ _ n23) (put_other _ _ _ _ n24) (put_other _ _ _ _ n26) (fun e => hb.block _ (h2.2.2 e).2.2.1)).flags (by simp [sz]) (by simp [sz]) (by simp [sz]) (by simp [sz])
    · refine s2 a w _ hF hbw ⟨hl', hF.put m3 _, hbw, g1, g2, u1, u2, ?_, ?_, by simpa [sz] using hne, by simpa [sz] using h64, by simpa [sz] using h75, by simpa [sz] using h61, by simpa [sz] using h73⟩
      · exact (h1.step k1 (Kept.refl _) (put_other _ _ _ _ (Ne.symm n13)) (put_other _ _ _ _ (Ne.symm n23)) (put_other _ _ _ _ n35) (fun _ => rfl)).flags (by simp [sz]) (by simp [sz]) (by simp [sz]) (by simp [sz])
      · exact ⟨fun _ => put_same _ _ _ (by rw [ps]; exact i3), fun e => ⟨(put_other _ _ _ _ n34).trans (h2.2.1 (by simpa [sz] using e)).1, (h2.2.1 (by simpa [sz] using e)).2⟩, fun e => ⟨(put_other _ _ _ _ n36).trans (h2.2.2 (by simpa [sz] using e)).1, (h2.2.2 (by simpa [sz] using e)).2.1, (h2.2.2 (by simpa [sz] using e)).2.2.1, by simpa [sz] using (h2.2.2 (by simpa [sz] using e)).2.2.2⟩⟩
    · have hnot : l.getD 7 false = false := by cases h6 : l.getD 7 false with | false => rfl | true => exact absurd (h73 h6) (by rw [hif]; simp)
      refine s3 a w _ hF hbw (h2.1 (waits_spec w32 hi)) (fun u w' hu hb => ⟨hl', hF.put m4 _, hbw.trans (hb.mono hbw.size), g1, g2, u1, u, ?_, ?_, by simpa [sz] using hne, by simpa [sz] using h64, by simpa [sz] using h75, by simpa [sz] using h61, by simp [sz]⟩)
      · exact (h1.step k1 (Kept.below hb) (put_other _ _ _ _ (Ne.symm n14)) (put_other _ _ _ _ (Ne.symm n24)) (put_other _ _ _ _ n45) (fun e => hb.block _ (h1.2.2 e).2.2.1)).flags (by simp [sz]) (by simp [sz]) (by simp [sz]) (by simp [sz])
      · exact ⟨fun e => (put_other _ _ _ _ (Ne.symm n34)).trans (h2.1 (by simpa [sz] using e)), fun _ => ⟨put_same _ _ _ (by rw [ps]; exact i4), hu⟩, fun e => ⟨(put_other _ _ _ _ n46).trans (h2.2.2 (by simpa [sz] using e)).1, (h2.2.2 (by simpa [sz] using e)).2.1, Nat.lt_of_lt_of_le (h2.2.2 (by simpa [sz] using e)).2.2.1 hb.size, by simpa [sz, hnot] using (hb.block _ (h2.2.2 (by simpa [sz] using e)).2.2.1).trans (h2.2.2 (by simpa [sz] using e)).2.2.2⟩⟩
    · have hal : Below w.heap.size w (w.alloc (.cells zs T)) := (Below.refl _ _).alloc (Nat.le_refl _) _
      have hnot : l.getD 6 false = false := by cases h6 : l.getD 6 false with | false => rfl | true => exact absurd (h64 h6) (by rw [hif]; simp)
      refine s4 a w _ hF ⟨hl', hF.put m5 _, hbw.alloc hbw.size _, w.heap.size, g2, u1, u2, ?_, ?_, fun _ e => Nat.ne_of_gt (h2.2.2 (by simpa [sz] using e)).2.2.1, by simp [sz], by simpa [sz] using h75, by simpa [sz] using h61, by simpa [sz] using h73⟩
      · exact ⟨fun e => (put_other _ _ _ _ (Ne.symm n15)).trans (h1.1 (by simpa [sz] using e)), fun e => ⟨(put_other _ _ _ _ (Ne.symm n25)).trans (h1.2.1 (by simpa [sz] using e)).1, k1 _ _ _ (h1.2.1 (by simpa [sz] using e)).2 (Kept.below hal)⟩, fun _ => ⟨put_same _ _ _ (by rw [ps]; exact i5), hbw.size, by simp, by simpa [sz, hnot] using heap_alloc_new w _⟩⟩
      · exact (h2.step k2 (Kept.below hal) (put_other _ _ _ _ (Ne.symm n35)) (put_other _ _ _ _ (Ne.symm n45)) (put_other _ _ _ _ n56) (fun e => hal.block _ (h2.2.2 e).2.2.1)).flags (by simp [sz]) (by simp [sz]) (by simp [sz]) (by simp [sz])
    · have hal : Below w.heap.size w (w.alloc (.cells zs T)) := (Below.refl _ _).alloc (Nat.le_refl _) _
      have hnot : l.getD 7 false = false := by cases h6 : l.getD 7 false with | false => rfl | true => exact absurd (h75 h6) (by rw [hif]; simp)
      refine s5 a w _ hF ⟨hl', hF.put m6 _, hbw.alloc hbw.size _, g1, w.heap.size, u1, u2, ?_, ?_, fun e _ => Nat.ne_of_lt (h1.2.2 (by simpa [sz] using e)).2.2.1, by simpa [sz] using h64, by simp [sz], by simpa [sz] using h61, by simpa [sz] using h73⟩
      · exact (h1.step k1 (Kept.below hal) (put_other _ _ _ _ (Ne.symm n16)) (put_other _ _ _ _ (Ne.symm n26)) (put_other _ _ _ _ (Ne.symm n56)) (fun e => hal.block _ (h1.2.2 e).2.2.1)).flags (by simp [sz]) (by simp [sz]) (by simp [sz]) (by simp [sz])
      · exact ⟨fun e => (put_other _ _ _ _ (Ne.symm n36)).trans (h2.1 (by simpa [sz] using e)), fun e => ⟨(put_other _ _ _ _ (Ne.symm n46)).trans (h2.2.1 (by simpa [sz] using e)).1, k2 _ _ _ (h2.2.1 (by simpa [sz] using e)).2 (Kept.below hal)⟩, fun _ => ⟨put_same _ _ _ (by rw [ps]; exact i6), hbw.size, by simp, by simpa [sz, hnot] using heap_alloc_new w _⟩⟩
    · have hc := h1.2.1 (waits_spec w61 hi)
      have ha := h1.2.2 (waits_spec w64 hi)
      have hz0 : w.heap[g1]? = some (.cells zs T (0, 0)) := by simpa [hif] using ha.2.2.2
      refine s6 a w _ g1 u1 hF ha.1 hc.1 hc.2 hz0 (fun w' hg' ho => ?_)
      have hk : Kept w w' := ho.kept hz0 hz
      refine ⟨hl', hF, ho.below hbw ha.2.1, g1, g2, u1, u2, ?_, ?_, by simpa [sz] using hne, fun _ => by simpa [sz] using waits_spec w64 hi, by simpa [sz] using h75, fun _ => by simpa [sz] using waits_spec w61 hi, by simpa [sz] using h73⟩
      · exact ⟨fun e => h1.1 (by simpa [sz] using e), fun e => ⟨hc.1, k1 _ _ _ hc.2 hk⟩, fun _ => ⟨ha.1, ha.2.1, by rw [ho.size]; exact ha.2.2.1, by simpa [sz] using hg'⟩⟩
      · exact (h2.step k2 hk rfl rfl rfl (fun e => ho.block _ (Ne.symm (hne (waits_spec w64 hi) e)))).flags (by simp [sz]) (by simp [sz]) (by simp [sz]) (by simp [sz])
    · have hc := h2.2.1 (waits_spec w73 hi)
      have ha := h2.2.2 (waits_spec w75 hi)
      have hz0 : w.heap[g2]? = some (.cells zs T (0, 0)) := by simpa [hif] using ha.2.2.2
      refine s7 a w _ g2 u2 hF ha.1 hc.1 hc.2 hz0 (fun w' hg' ho => ?_)
      have hk : Kept w w' := ho.kept hz0 hz
      refine ⟨hl', hF, ho.below hbw ha.2.1, g1, g2, u1, u2, ?_, ?_, by simpa [sz] using hne, by simpa [sz] using h64, fun _ => by simpa [sz] using waits_spec w75 hi, by simpa [sz] using h61, fun _ => by simpa [sz] using waits_spec w73 hi⟩
      · exact (h1.step k1 hk rfl rfl rfl (fun e => ho.block _ (hne e (waits_spec w75 hi)))).flags (by simp [sz]) (by simp [sz]) (by simp [sz]) (by simp [sz])
      · exact ⟨fun e => h2.1 (by simpa [sz] using e), fun e => ⟨hc.1, k2 _ _ _ hc.2 hk⟩, fun _ => ⟨ha.1, ha.2.1, by rw [ho.size]; exact ha.2.2.1, by simpa [sz] using hg'⟩⟩
  · rintro l a w ⟨hl, hF, hbw, g1, g2, u1, u2, h1, h2, hne, _⟩ hr
    have hall := all_of_back hback (by omega) hr
    have e := fun i (h : i < 8) => hall i (by omega)
    rw [e 0 (by omega), e 1 (by omega), e 4 (by omega), e 6 (by omega)] at h1
    rw [e 2 (by omega), e 3 (by omega), e 5 (by omega), e 7 (by omega)] at h2
    exact fin a w g1 g2 u1 u2 hF hbw h1 h2 (hne (e 4 (by omega)) (e 5 (by omega)))
  · have z : ∀ j, (Array.replicate ops.size false).getD j false = false := by intro j; simp [Array.getElem?_replicate]; split <;> rfl
    refine ⟨by simp [hsz], ⟨rfl, rfl, fun _ _ => rfl⟩, hB, 0, 0, undef, undef, ?_, ?_, ?_⟩
    · rw [z, z, z, z]; exact ⟨(fun h => by cases h), (fun h => by cases h), (fun h => by cases h)⟩
    · rw [z, z, z, z]; exact ⟨(fun h => by cases h), (fun h => by cases h), (fun h => by cases h)⟩
    · rw [z, z, z, z]; exact ⟨(fun h => by cases h), (fun h => by cases h), (fun h => by cases h), (fun h => by cases h), (fun h => by cases h)⟩
  · simp [still]
end Go.Proofs.Ytmgdpchjimlmeaa
