import Derived.Test.YtdmfapgclppmhaaGreatDoorMB4
import Derived.Test.YtdmfapgclppmhaaGreatDoorMB6
import Derived.Test.YtdmfapgclppmhaaGreatDoorMB1
set_option maxHeartbeats 16000000
set_option maxRecDepth 100000
section
namespace Go.Proofs.YtdmfapgclppmhaaGreatDoor
open Go.RowKit
section
variable {P : Program} {ops : Array Oper} {Q : Exit → Act → World → Prop} {md : Region.Mode}
theorem wpAny_go {l : Array Bool} {a : Act} {w : World} {fuel : Nat} {is : List Nat} (hr : Region.ready md ops l = is) (hn : is.isEmpty = false) (h : ∀ i, i ∈ is → wpOp P ops Q i (wpAny P md ops Q fuel (l.setIfInBounds i true)) a w) : wpAny P md ops Q (fuel + 1) l a w :=
  ⟨fun e => (by rw [hr] at e; subst e; exact absurd hn (by simp)), fun i hi => h i (by rw [hr] at hi; exact hi)⟩
theorem wpAny_go1 {l : Array Bool} {a : Act} {w : World} {fuel i : Nat} (hr : Region.ready md ops l = [i]) (h : wpOp P ops Q i (wpAny P md ops Q fuel (l.setIfInBounds i true)) a w) : wpAny P md ops Q (fuel + 1) l a w :=
  wpAny_go hr rfl fun j hj => by rw [List.mem_singleton] at hj; subst hj; exact h
theorem wpAny_go2 {l : Array Bool} {a : Act} {w : World} {fuel i j : Nat} (hr : Region.ready md ops l = [i, j]) (h : wpOp P ops Q i (wpAny P md ops Q fuel (l.setIfInBounds i true)) a w) (h2 : wpOp P ops Q j (wpAny P md ops Q fuel (l.setIfInBounds j true)) a w) : wpAny P md ops Q (fuel + 1) l a w :=
  wpAny_go hr rfl fun k hk => by
    simp only [List.mem_cons, List.not_mem_nil, or_false] at hk
    rcases hk with rfl | rfl
    · exact h
    · exact h2
theorem wpAny_end {l : Array Bool} {a : Act} {w : World} {fuel : Nat} (hr : Region.ready md ops l = []) (h : Q .normal a w) : wpAny P md ops Q fuel l a w := by
  cases fuel with
  | zero => exact ⟨hr, h⟩
  | succ f => exact ⟨fun _ => h, fun i hi => by rw [hr] at hi; cases hi⟩
theorem wp_operands_x {id : Nat} {a0 : Act} {W : World} (hm : P.follows .mixedOrders = true) (x y n1 n2 : Nat) (S : List Nat) (D : List Tmp) (R : Nat → Value → World → Prop)
    (hb : backB .any ops = true) (hx : x < ops.size ∧ y < ops.size) (hyO : (x :: S).contains y = false) (hxS : S.contains x = false)
    (hS : (S.all fun i => decide (i < ops.size)) = true)
    (ht : ((List.range ops.size).all fun i => (x :: S).contains i || S.all fun k => waitsT .any ops ops.size i k) = true) (hw : ((x :: S).all fun i => (List.range ops.size).all fun k => !waitsB .any ops i k || S.contains k) = true)
    (hnd : ((x :: S).map (D.getD · 0)).Nodup) (hin : ((x :: S).all fun i => decide (D.getD i 0 < a0.tmps.size)) = true)
    (hn1 : still ((List.range ops.size).map (S.contains ·)).toArray = n1) (hn2 : still (((List.range ops.size).map (S.contains ·)).toArray.setIfInBounds x true) = n2)
    (st : ∀ i u w w', i ∈ x :: S → R i u w → Below w.heap.size w w' → R i u w')
    (step : ∀ i a w K, i ∈ x :: S → Fr6 ((x :: S).map (D.getD · 0)) a0 a → Below W.heap.size W w → (∀ k, waitsB .any ops i k = true → R k (a.tmps.getD (D.getD k 0) undef) w) →
      (∀ u w', R i u w' → Below w.heap.size w w' → K (a.put (some (D.getD i 0)) u) w') → wpOp P ops Q i K a w)
    (fin : ∀ a w, Fr6 ((x :: S).map (D.getD · 0)) a0 a → Below W.heap.size W w → (∀ i, i ∈ S → R i (a.tmps.getD (D.getD i 0) undef) w) →
      (∀ f, wpAny P .any ops Q (f + n1) ((List.range ops.size).map (S.contains ·)).toArray a w) ∧ (R x (a.tmps.getD (D.getD x 0) undef) w → ∀ f, wpAny P .any ops Q (f + n2) (((List.range ops.size).map (S.contains ·)).toArray.setIfInBounds x true) a w)) :
    (Code.region id ops true).wp P Q a0 W := by
  have memS : ∀ i, i ∈ S → i < ops.size := fun i hi => by
    rw [List.all_eq_true] at hS
    simpa using hS i hi
  have memO : ∀ i, i ∈ x :: S → i < ops.size := fun i hi => by
    rcases List.mem_cons.1 hi with rfl | h
    · exact hx.1
    · exact memS i h
  have hlt : ∀ i, i ∈ x :: S → D.getD i 0 < a0.tmps.size := fun i hi => by
    rw [List.all_eq_true] at hin
    simpa using hin i hi
  have hne : ∀ i j, i ∈ x :: S → j ∈ x :: S → i ≠ j → D.getD i 0 ≠ D.getD j 0 := fun i j hi hj h e => by
    obtain ⟨p, hp, hpe⟩ := List.getElem_of_mem hi
    obtain ⟨q, hq, hqe⟩ := List.getElem_of_mem hj
    have h1 : ((x :: S).map (D.getD · 0))[p]'(by simpa using hp) = ((x :: S).map (D.getD · 0))[q]'(by simpa using hq) := by
      rw [List.getElem_map, List.getElem_map, hpe, hqe]; exact e
    have h2 := (List.getElem_inj hnd).1 h1
    subst h2
    exact h (hpe.symm.trans hqe)
  have hmem : ∀ i, i ∈ x :: S → D.getD i 0 ∈ (x :: S).map (D.getD · 0) := fun i hi => List.mem_map.2 ⟨i, hi, rfl⟩
  have xS : S.contains x = false := hxS
  have zz : ∀ j, (Array.replicate ops.size false).getD j false = false := by intro j; simp [Array.getElem?_replicate]; split <;> rfl
  refine wp_region_any hm (wpAny_phaseP (Pb := fun i => S.contains i) (Ob := fun i => (x :: S).contains i) (fun l a w => Fr6 ((x :: S).map (D.getD · 0)) a0 a ∧ Below W.heap.size W w ∧ (∀ i, i ∈ x :: S → l.getD i false = true → R i (a.tmps.getD (D.getD i 0) undef) w)) hb
    ⟨y, hx.2, hyO⟩ ?_ ?_ ?_ _ _ _ _ ?_ (by simp) ?_ ?_ ?_)
  · intro i hi hc k hk hkp
    simp only [List.all_eq_true, List.mem_range, Bool.or_eq_true] at ht
    rcases ht i hi with h | h
    · have hc' : (x :: S).contains i = false := hc
      rw [hc'] at h; cases h
    · exact h k (List.contains_iff_mem.1 hkp)
  · rintro l a w i ⟨hF, hbw, hR⟩ hl hi hip hir
    have hiS := List.contains_iff_mem.1 hip
    have ps : a.tmps.size = a0.tmps.size := hF.2.1
    refine step i a w _ hiS hF hbw (fun k hk => hR k ?_ (waits_spec hk hir)) (fun u w' hu hbb => ⟨hF.put (hmem i hiS) _, hbw.trans (hbb.mono hbw.size), fun j hj hjl => ?_⟩)
    · rw [List.all_eq_true] at hw
      have h1 := hw i hiS
      rw [List.all_eq_true] at h1
      have hks : k < ops.size := by
        rcases Nat.lt_or_ge k ops.size with h | h
        · exact h
        · exfalso
          have := waits_spec hk hir
          have h2 : l.size ≤ k := by omega
          simp [Array.getElem?_eq_none h2] at this
      have h2 := h1 k (List.mem_range.2 hks)
      rw [hk] at h2
      exact List.mem_cons_of_mem _ (List.contains_iff_mem.1 (by simpa using h2))
    · by_cases hij : i = j
      · subst hij; rw [put_same _ _ _ (by rw [ps]; exact hlt i hiS)]; exact hu
      · rw [getD_set_ne false hij] at hjl
        rw [put_other _ _ _ _ (hne i j hiS hj hij)]
        exact st j _ _ _ hj (hR j hj hjl) hbb
  · rintro l a w ⟨hF, hbw, hR⟩ hl hall hno fuel hfu
    have hf := fin a w hF hbw (fun i hi => hR i (List.mem_cons_of_mem _ hi) (hall i (memS i hi) (List.contains_iff_mem.2 hi)))
    have hval : ∀ i, i < ops.size → i ≠ x → l.getD i false = S.contains i := by
      intro i hi hix
      cases hc : S.contains i
      · refine hno i hi ?_
        cases hc2 : (x :: S).contains i
        · rfl
        · rcases List.mem_cons.1 (List.contains_iff_mem.1 hc2) with h | h
          · exact absurd h hix
          · rw [List.contains_iff_mem.2 h] at hc; cases hc
      · exact hall i hi hc
    cases hlx : l.getD x false
    · have hlL : l = ((List.range ops.size).map (S.contains ·)).toArray := by
        apply Array.ext
        · simp [hl]
        · intro i h1 h2
          have : l.getD i false = S.contains i := by
            by_cases hix : i = x
            · rw [hix, hlx, xS]
            · exact hval i (by omega) hix
          simp only [Array.getD_eq_getD_getElem?, Array.getElem?_eq_getElem h1, Option.getD_some] at this
          rw [this]; simp
      rw [hlL] at hfu
      rw [hn1] at hfu
      obtain ⟨f, rfl⟩ : ∃ f, fuel = f + n1 := ⟨fuel - n1, by omega⟩
      rw [hlL]
      exact hf.1 f
    · have hlL : l = (((List.range ops.size).map (S.contains ·)).toArray.setIfInBounds x true) := by
        apply Array.ext
        · simp [hl]
        · intro i h1 h2
          by_cases hix : i = x
          · subst hix
            simp only [Array.getD_eq_getD_getElem?, Array.getElem?_eq_getElem h1, Option.getD_some] at hlx
            rw [hlx]; simp
          · have := hval i (by omega) hix
            simp only [Array.getD_eq_getD_getElem?, Array.getElem?_eq_getElem h1, Option.getD_some] at this
            rw [this, Array.getElem_setIfInBounds]
            rw [if_neg (fun e => hix e.symm)]; simp
            exact (by simp; omega)
      rw [hlL] at hfu
      rw [hn2] at hfu
      obtain ⟨f, rfl⟩ : ∃ f, fuel = f + n2 := ⟨fuel - n2, by omega⟩
      rw [hlL]
      exact hf.2 (hR x (List.mem_cons_self ..) hlx) f
  · unfold still; exact Nat.le_trans (List.count_le_length) (by simp)
  · exact fun j hj => absurd hj (by rw [zz]; simp)
  · exact fun k _ _ => zz k
  · exact ⟨⟨rfl, rfl, fun _ _ => rfl⟩, ⟨rfl, rfl, rfl, Nat.le_refl _, fun _ _ => rfl⟩, fun i _ hi => absurd hi (by rw [zz]; simp)⟩
end
end Go.Proofs.YtdmfapgclppmhaaGreatDoor
end
section
namespace Go.Proofs.YtdmfapgclppmhaaGreatDoor
open Go.RowKit
theorem pw_no {w : World} {N : Nat} {v : Value} {ps : List PdZ} (h : Pw w N v ps) (n : Int) : v ≠ .int .u32 n := by
  obtain ⟨_, cs, hown, _⟩ := h
  rcases hown.2 with ⟨rfl, _⟩ | ⟨q, cap, cur, rfl, _⟩ <;> simp
theorem noint_of {l : List Value} (h : ∀ u, u ∈ l → ∀ n : Int, u ≠ .int .u32 n) : ∀ (i : Nat) (n : Int), l.toArray[i]? ≠ some (.int .u32 n) := by
  intro i n e
  exact h _ (List.mem_of_getElem? (by simpa using e)) n rfl
theorem gk_own {g b : Nat} {w x w1 : World} (h : w.grownBy x (some g) ∧ Kept w x) (hO : Only b x w1) (hb : w.heap.size ≤ b) (hk : Kept x w1) : w.grownBy w1 (some g) ∧ Kept w w1 :=
  ⟨⟨hO.os.trans h.1.os, hO.tape.trans h.1.tape, hO.output.trans h.1.output, Nat.le_trans h.1.size (Nat.le_of_eq hO.size.symm), fun k hk2 hne => (hO.block k (by omega)).trans (h.1.block k hk2 hne)⟩, h.2.trans hk⟩
theorem gk_own2 {g : Nat} {r : Option Nat} {w x y : World} (h : w.grownBy x (some g) ∧ Kept w x) (hg : x.grownBy y r) (hk : Kept x y) (hr : ∀ k, r = some k → w.heap.size ≤ k) : w.grownBy y (some g) ∧ Kept w y :=
  ⟨⟨hg.os.trans h.1.os, hg.tape.trans h.1.tape, hg.output.trans h.1.output, Nat.le_trans h.1.size hg.size, fun k hk2 hne => (hg.block k (Nat.lt_of_lt_of_le hk2 h.1.size) (fun e => by have := hr k e.symm; omega)).trans (h.1.block k hk2 hne)⟩, h.2.trans hk⟩
theorem gk_trans {g : Nat} {w x y : World} (h : w.grownBy x (some g) ∧ Kept w x) (k : x.grownBy y (some g) ∧ Kept x y) : w.grownBy y (some g) ∧ Kept w y := ⟨grow_trans h.1 k.1, h.2.trans k.2⟩
theorem Dw.ge {w : World} {B k : Nat} {v : Value} {L : List (Int × Int)} (h : Dw w B v L) (hk : v.ownBlock = some k) : B ≤ k := by
  obtain ⟨_, cs, hown, _⟩ := h
  exact (hown.lt k hk).1
theorem Dw.neT {w : World} {B k : Nat} {v : Value} {L : List (Int × Int)} (h : Dw w B v L) {cs : Array Value} {T : TypeId} {fr : Nat × Nat} (hr : w.heap[k]? = some (.cells cs T fr)) (hT : T ≠ 26) : v.ownBlock ≠ some k := by
  obtain ⟨_, xs, hown, _⟩ := h
  intro e
  rcases hown.2 with ⟨rfl, _⟩ | ⟨q, cap, cur, rfl, _, hq, _⟩
  · cases e
  · obtain rfl : q = k := by simpa [Value.ownBlock] using e
    rw [hq] at hr
    exact hT (by injection hr with hr; injection hr with _ h2 _; exact h2.symm)
theorem Dw.same {w w' : World} {B : Nat} {v : Value} {L : List (Int × Int)} (h : Dw w B v L) (hs : ∀ k, v.ownBlock = some k → w'.heap[k]? = w.heap[k]?) (hk : Kept w w') : Dw w' B v L := by
  obtain ⟨hn, cs, hown, hcs⟩ := h
  refine ⟨fun q cur T2 fr2 hq hh => hn q cur T2 fr2 hq ((hs q hq).symm.trans hh), cs, ⟨hown.1, ?_⟩, hcs.kept hk⟩
  rcases hown.2 with h1 | ⟨q, cap, cur, rfl, hb, hq, hr⟩
  · exact .inl h1
  · exact .inr ⟨q, cap, cur, rfl, hb, (hs q rfl).trans hq, hr⟩
theorem Dw.grow {w w' : World} {B g : Nat} {v : Value} {L : List (Int × Int)} (h : Dw w B v L) (hg : w.grownBy w' (some g) ∧ Kept w w') (hne : ∀ k, v.ownBlock = some k → k ≠ g) : Dw w' B v L :=
  h.same (fun k hk => by
    obtain ⟨_, cs, hown, _⟩ := h
    exact hg.1.block k (hown.lt k hk).2 (fun e => hne k hk (by injection e))) hg.2
theorem Dw.only {w w' : World} {B b : Nat} {v : Value} {L : List (Int × Int)} (h : Dw w B v L) (hO : Only b w w') (hne : v.ownBlock ≠ some b) (hk : Kept w w') : Dw w' B v L :=
  h.same (fun k hk => hO.block k (fun e => hne (by rw [hk, e]))) hk
theorem Dw.form {w : World} {B : Nat} {v : Value} {L : List (Int × Int)} (h : Dw w B v L) : ∃ A n c, v = .slice A n c := by
  obtain ⟨_, cs, hown, _⟩ := h
  rcases hown.2 with ⟨rfl, _⟩ | ⟨q, cap, cur, rfl, _⟩
  · exact ⟨_, _, _, rfl⟩
  · exact ⟨_, _, _, rfl⟩
theorem Dw.no {w : World} {B : Nat} {v : Value} {L : List (Int × Int)} (h : Dw w B v L) (n : Int) : v ≠ .int .u32 n := by
  obtain ⟨A, m, c, rfl⟩ := h.form
  simp
theorem Pw.neT {w : World} {B k : Nat} {v : Value} {ps : List PdZ} (h : Pw w B v ps) {cs : Array Value} {T : TypeId} {fr : Nat × Nat} (hr : w.heap[k]? = some (.cells cs T fr)) (hT : T ≠ 49) : v.ownBlock ≠ some k := by
  obtain ⟨_, xs, hown, _⟩ := h
  intro e
  rcases hown.2 with ⟨rfl, _⟩ | ⟨q, cap, cur, rfl, _, hq, _⟩
  · cases e
  · obtain rfl : q = k := by simpa [Value.ownBlock] using e
    rw [hq] at hr
    exact hT (by injection hr with hr; injection hr with _ h2 _; exact h2.symm)
theorem Pw.lt {w : World} {B k : Nat} {v : Value} {ps : List PdZ} (h : Pw w B v ps) (hk : v.ownBlock = some k) : B ≤ k ∧ k < w.heap.size := by
  obtain ⟨_, xs, hown, _⟩ := h
  exact hown.lt k hk
theorem Pw.gk {w w' : World} {N g : Nat} {v : Value} {ps : List PdZ} (h : Pw w N v ps) (hg : w.grownBy w' (some g) ∧ Kept w w') {xs : Array Value} {fr : Nat × Nat} (hT : w.heap[g]? = some (.cells xs 60 fr)) : Pw w' N v ps :=
  h.gz (Gz.grown (N := N) hg.1 hg.2) hT (by decide) (fun k hk => hg.1.block k (h.lt hk).2 (fun e => h.neT hT (by decide) (by rw [hk]; exact e)))
theorem nxt_is (m x W : Int) {q : Int × Int} (h : endq m x W = q) : ∃ M E V, IsD (dv m x + dv 1 W) M E ∧ tot M E = (q.1, q.2, V) := by
  refine ⟨_, _, (tot (nm (endz m x W)) (nx (endz m x W) (min x W))).2.2, endz_is m x W, ?_⟩
  rw [← h]; rfl
theorem LB.alloc {w : World} {g : Nat} {s : List UInt8 × Bool} {rs : List Value} (h : LB w g s rs) (o : Obj) : LB (w.alloc o) g s rs := (heap_alloc_old _ _ (heap_lt h)).trans h
noncomputable def rdC : Nat → List UInt8 × Bool → List (Int × Int) × List UInt8 × Bool
  | 0, s => ([], s)
  | n + 1, s => ((rdC n s).1 ++ [(rdN (rdC n s).2).1], (rdN (rdC n s).2).2)
theorem piece_any (g : Nat) (s0 s1 s2 s3 : List UInt8 × Bool) (F O W Q D xw : Int) (a nx nx2 er : Int × Int) (cs : List (Int × Int)) (A B : Option Addr) (c d : Nat) (V : Value) (ps : List PdZ) (W0 w : World) (h : LB w g s0 [.int .i64 F, .int .i64 O, .bool (decide (a.1 < 0)), .slice A (digs a.1.natAbs).length c, .int .i64 a.2, .int .i64 W, .int .i64 Q, .int .i64 D, V, .bool (decide (nx.1 < 0)), .slice B (digs nx.1.natAbs).length d, .int .i64 nx.2]) (hl : s0.1.length ≤ 9223372036854775807) (hV : Pw w W0.heap.size V ps) (hB : Below W0.heap.size W0 w) (hT : T32 W0) (hg : W0.heap.size ≤ g)
    (hd : Dg w B d (digs nx.1.natAbs)) (hr : Rt nx.1 nx.2 ∧ (digs nx.1.natAbs).length ≤ 10000) (hD : 0 ≤ D ∧ D ≤ 255) (hn : ps.length ≤ 300) (e1 : rdS s0 = (xw, s1)) (e2 : rdN s1 = (er, s2)) (e3 : rdC (D + 1).toNat s2 = (cs, s3)) (e4 : endq nx.1 nx.2 (xw - 128) = nx2) :
    Calls Tryz.prog 21 #[.pointer (some ⟨g, 0, none⟩)] w fun e w' => ∃ V2 B2 d2, e = .returned (.tuple #[]) ∧ LB w' g s3 [.int .i64 F, .int .i64 O, .bool (decide (a.1 < 0)), .slice A (digs a.1.natAbs).length c, .int .i64 a.2, .int .i64 W, .int .i64 Q, .int .i64 D, V2, .bool (decide (nx2.1 < 0)), .slice B2 (digs nx2.1.natAbs).length d2, .int .i64 nx2.2] ∧ Pw w' W0.heap.size V2 (ps ++ [⟨nx, xw - 128, cs, er⟩]) ∧ Dg w' B2 d2 (digs nx2.1.natAbs) ∧ Gz W0.heap.size g w w' := by
  have H0 := qH h
  have B0 := qH hl
  have HV := qH hV
  have HBW := qH hB
  have HT := qH hT
  have HG := qH hg
  have D0 := qH hd
  have HR := qH hr
  have HDD := qH hD
  have HN := qH hn
  have E1 := qH e1
  have E2 := qH e2
  have E3 := qH e3
  have E4 := qH e4
  have B1 := qH (rdS_b e1 hl)
  have B2 := qH (rdN_b e2 B1.out.1)
  have wx : wrap64 (xw - 128) = xw - 128 := IntWalk.wrap64_in _ ⟨by have := B1.out; omega, by have := B1.out; omega⟩
  have wx2 : IntKind.i64.wrap (xw - 128) = xw - 128 := by rw [IntWalk.i64_in _ (by have := B1.out; omega)]
  have GN := qH (heap_lt h)
  have HD := qH (show LB w.drew g s0 [.int .i64 F, .int .i64 O, .bool (decide (a.1 < 0)), .slice A (digs a.1.natAbs).length c, .int .i64 a.2, .int .i64 W, .int .i64 Q, .int .i64 D, V, .bool (decide (nx.1 < 0)), .slice B (digs nx.1.natAbs).length d, .int .i64 nx.2] from h)
  have HVI := qH (fun n : Int => pw_no hV n)
  have HZ := qH (show ∀ u, u ∈ ([.int .i64 F, .int .i64 O, .bool (decide (a.1 < 0)), .slice A (digs a.1.natAbs).length c, .int .i64 a.2, .int .i64 W, .int .i64 Q, .int .i64 D, V, .bool (decide (nx.1 < 0)), .slice B (digs nx.1.natAbs).length d, .int .i64 nx.2] : List Value) → ∀ n : Int, u ≠ .int .u32 n by intro u hu n e; subst e; simp at hu; exact HVI.out n hu.symm)
  clear h hl hV hB hT hg hd hr hD hn e1 e2 e3 e4
  go_enter Tryz.func21, Tryz.ntmps21
  go_upto_region 0 with (fail)
  refine wp_operandsZ (W := w) rfl 15 [3, 4, 5, 6, 7, 8, 9, 10, 11, 12, 13, 14, 15, 16, 2] (fun i u x => match i with | 0 => u = .pointer (some ⟨g, 0, none⟩) | 1 => u = .pointer (some ⟨g, 0, none⟩) | 2 => u = .pointer (some ⟨g, 11, none⟩) | 3 => u = .agg #[.bool (decide (nx.1 < 0)), .slice B (digs nx.1.natAbs).length d, .int .i64 nx.2] | 4 => u = .pointer (some ⟨g, 0, none⟩) | 5 => u = .pointer (some ⟨g, 0, none⟩) | 6 => u = .pointer (some ⟨g, 0, none⟩) | 7 => u = .int .i64 xw | 8 => u = .int .i64 (xw - 128) | 9 => u = .pointer (some ⟨g, 0, none⟩) | 10 => u = .pointer (some ⟨g, 0, none⟩) | 11 => u = .pointer (some ⟨g, 0, none⟩) | 12 => ∃ A1 c1, u = .agg #[.bool (decide (er.1 < 0)), .slice A1 (digs er.1.natAbs).length c1, .int .i64 er.2] ∧ Dg x A1 c1 (digs er.1.natAbs) | 13 => ∃ A1 c1, u = .agg #[.bool (decide (nx.1 < 0)), .slice B (digs nx.1.natAbs).length d, .int .i64 nx.2, .int .i64 (xw - 128), .slice none 0 0, .bool (decide (er.1 < 0)), .slice A1 (digs er.1.natAbs).length c1, .int .i64 er.2] ∧ Dg x A1 c1 (digs er.1.natAbs) | 14 => ∃ b, u = .pointer (some ⟨b, 0, none⟩) ∧ x.heap[b]? = some (.cells #[.bool false, .slice none 0 0, .int .i64 0, .int .i64 0, .slice none 0 0, .bool false, .slice none 0 0, .int .i64 0] 49 (0, 0)) ∧ w.heap.size ≤ b | _ => True) (fun a b => a.grownBy b (some g) ∧ Kept a b) (fun l x => LB x g (if l 12 then s2 else if l 7 then s1 else s0) [.int .i64 F, .int .i64 O, .bool (decide (a.1 < 0)), .slice A (digs a.1.natAbs).length c, .int .i64 a.2, .int .i64 W, .int .i64 Q, .int .i64 D, V, .bool (decide (nx.1 < 0)), .slice B (digs nx.1.natAbs).length d, .int .i64 nx.2] ∧ (l 12 = true → l 7 = true))
    (by decide) rfl (by kernel_rfl) (by kernel_rfl) (by decide) (by kernel_rfl) (fun _ _ _ h k => ⟨grow_trans h.1 k.1, h.2.trans k.2⟩) ?_ (⟨grow_below (bd0 w), Kept.below (bd0 w)⟩) (⟨by simpa using HD.out, fun h => by simp at h⟩) ?_ ?_
  · intro i u x x' hi hR hb'
    have hi' : i = 0 ∨ i = 1 ∨ i = 2 ∨ i = 3 ∨ i = 4 ∨ i = 5 ∨ i = 6 ∨ i = 7 ∨ i = 8 ∨ i = 9 ∨ i = 10 ∨ i = 11 ∨ i = 12 ∨ i = 13 ∨ i = 14 := by omega
    rcases hi' with rfl | rfl | rfl | rfl | rfl | rfl | rfl | rfl | rfl | rfl | rfl | rfl | rfl | rfl | rfl
    · exact hR
    · exact hR
    · exact hR
    · exact hR
    · exact hR
    · exact hR
    · exact hR
    · exact hR
    · exact hR
    · exact hR
    · exact hR
    · exact hR
    · obtain ⟨A1, c1, e, hd⟩ := hR; exact ⟨A1, c1, e, hd.kept hb'.2⟩
    · obtain ⟨A1, c1, e, hd⟩ := hR; exact ⟨A1, c1, e, hd.kept hb'.2⟩
    · obtain ⟨b, e, hg, hn⟩ := hR; exact ⟨b, e, grow_row hb'.1 hg (by have := GN.out; omega), hn⟩
  · intro i av x l K hi hF hb' hl hw hZ hK
    have hi' : i = 0 ∨ i = 1 ∨ i = 2 ∨ i = 3 ∨ i = 4 ∨ i = 5 ∨ i = 6 ∨ i = 7 ∨ i = 8 ∨ i = 9 ∨ i = 10 ∨ i = 11 ∨ i = 12 ∨ i = 13 ∨ i = 14 := by omega
    rcases hi' with rfl | rfl | rfl | rfl | rfl | rfl | rfl | rfl | rfl | rfl | rfl | rfl | rfl | rfl | rfl
    · simp only [wpOp, gAy, gZy, Region.wanted, if_true]
      refine Or.inl ?_
      have e0 : av.tmps.getD 0 undef = .pointer (some ⟨g, 0, none⟩) := hF.2.2 0 (by decide)
      have e0e : av.eval (.tmp 0) = .pointer (some ⟨g, 0, none⟩) := e0
      have e0g : av.tmps[0]?.getD undef = .pointer (some ⟨g, 0, none⟩) := by have := e0; simp only [Array.getD_eq_getD_getElem?] at this; exact this
      clear hw hF
      simp only [Oper.wp, execOp]
      try simp only [e0e]
      go_simp
      exact hK _ x (by first | rfl | (simp only [Nat.add_zero]; done) | (congr 1; omega)) (⟨World.grownBy.refl _ _, Kept.refl _⟩) (by simpa using hZ)
    · simp only [wpOp, gAy, gSy, gZy, Region.wanted, if_true]
      refine Or.inl ?_
      have e0 : av.tmps.getD 3 undef = .pointer (some ⟨g, 0, none⟩) := (hw 0 (by kernel_rfl)).2
      have e0e : av.eval (.tmp 3) = .pointer (some ⟨g, 0, none⟩) := e0
      have e0g : av.tmps[3]?.getD undef = .pointer (some ⟨g, 0, none⟩) := by have := e0; simp only [Array.getD_eq_getD_getElem?] at this; exact this
      clear hw hF
      simp only [Oper.wp, execOp]
      try simp only [e0e]
      go_simp
      exact hK _ x (by first | rfl | (simp only [Nat.add_zero]; done) | (congr 1; omega)) (⟨World.grownBy.refl _ _, Kept.refl _⟩) (by simpa using hZ)
    · simp only [wpOp, gAy, gSy, gZy, Region.wanted, if_true]
      refine Or.inl ?_
      have e0 : av.tmps.getD 4 undef = .pointer (some ⟨g, 0, none⟩) := (hw 1 (by kernel_rfl)).2
      have e0e : av.eval (.tmp 4) = .pointer (some ⟨g, 0, none⟩) := e0
      have e0g : av.tmps[4]?.getD undef = .pointer (some ⟨g, 0, none⟩) := by have := e0; simp only [Array.getD_eq_getD_getElem?] at this; exact this
      clear hw hF
      simp only [Oper.wp, execOp]
      try simp only [e0e]
      go_simp
      exact hK _ x (by first | rfl | (simp only [Nat.add_zero]; done) | (congr 1; omega)) (⟨World.grownBy.refl _ _, Kept.refl _⟩) (by simpa using hZ)
    · simp only [wpOp, gAy, gSy, gZy, Region.wanted, if_true]
      refine Or.inl ?_
      have e0 : av.tmps.getD 5 undef = .pointer (some ⟨g, 11, none⟩) := (hw 2 (by kernel_rfl)).2
      have e0e : av.eval (.tmp 5) = .pointer (some ⟨g, 11, none⟩) := e0
      have e0g : av.tmps[5]?.getD undef = .pointer (some ⟨g, 11, none⟩) := by have := e0; simp only [Array.getD_eq_getD_getElem?] at this; exact this
      have f0 := row_c hZ.1 (i := 11) rfl
      have f1 := row_c hZ.1 (i := 12) rfl
      have f2 := row_c hZ.1 (i := 13) rfl
      clear hw hF
      simp only [Oper.wp, execOp]
      try simp only [e0e]
      go_simp
      exact hK _ x (by first | rfl | (simp only [Nat.add_zero]; done) | (congr 1; omega)) (⟨World.grownBy.refl _ _, Kept.refl _⟩) (by simpa using hZ)
    · simp only [wpOp, gAy, gSy, gZy, Region.wanted, if_true]
      refine Or.inl ?_
      have e0 : av.tmps.getD 0 undef = .pointer (some ⟨g, 0, none⟩) := hF.2.2 0 (by decide)
      have e0e : av.eval (.tmp 0) = .pointer (some ⟨g, 0, none⟩) := e0
      have e0g : av.tmps[0]?.getD undef = .pointer (some ⟨g, 0, none⟩) := by have := e0; simp only [Array.getD_eq_getD_getElem?] at this; exact this
      clear hw hF
      simp only [Oper.wp, execOp]
      try simp only [e0e]
      go_simp
      exact hK _ x (by first | rfl | (simp only [Nat.add_zero]; done) | (congr 1; omega)) (⟨World.grownBy.refl _ _, Kept.refl _⟩) (by simpa using hZ)
    · simp only [wpOp, gAy, gSy, gZy, Region.wanted, if_true]
      refine Or.inl ?_
      have e0 : av.tmps.getD 7 undef = .pointer (some ⟨g, 0, none⟩) := (hw 4 (by kernel_rfl)).2
      have e0e : av.eval (.tmp 7) = .pointer (some ⟨g, 0, none⟩) := e0
      have e0g : av.tmps[7]?.getD undef = .pointer (some ⟨g, 0, none⟩) := by have := e0; simp only [Array.getD_eq_getD_getElem?] at this; exact this
      clear hw hF
      simp only [Oper.wp, execOp]
      try simp only [e0e]
      go_simp
      exact hK _ x (by first | rfl | (simp only [Nat.add_zero]; done) | (congr 1; omega)) (⟨World.grownBy.refl _ _, Kept.refl _⟩) (by simpa using hZ)
    · simp only [wpOp, gAy, gSy, gZy, Region.wanted, if_true]
      refine Or.inl ?_
      have e0 : av.tmps.getD 8 undef = .pointer (some ⟨g, 0, none⟩) := (hw 5 (by kernel_rfl)).2
      have e0e : av.eval (.tmp 8) = .pointer (some ⟨g, 0, none⟩) := e0
      have e0g : av.tmps[8]?.getD undef = .pointer (some ⟨g, 0, none⟩) := by have := e0; simp only [Array.getD_eq_getD_getElem?] at this; exact this
      clear hw hF
      simp only [Oper.wp, execOp]
      try simp only [e0e]
      go_simp
      exact hK _ x (by first | rfl | (simp only [Nat.add_zero]; done) | (congr 1; omega)) (⟨World.grownBy.refl _ _, Kept.refl _⟩) (by simpa using hZ)
    · simp only [wpOp, gAy, gSy, gZy, Region.wanted, if_true]
      refine Or.inl ?_
      have e0 : av.tmps.getD 9 undef = .pointer (some ⟨g, 0, none⟩) := (hw 6 (by kernel_rfl)).2
      have e0e : av.eval (.tmp 9) = .pointer (some ⟨g, 0, none⟩) := e0
      have e0g : av.tmps[9]?.getD undef = .pointer (some ⟨g, 0, none⟩) := by have := e0; simp only [Array.getD_eq_getD_getElem?] at this; exact this
      have l12 : l 12 = false := by cases h3 : l 12 with | false => rfl | true => (have := hZ.2 h3; rw [hl] at this; cases this)
      have hrow : LB x g s0 [.int .i64 F, .int .i64 O, .bool (decide (a.1 < 0)), .slice A (digs a.1.natAbs).length c, .int .i64 a.2, .int .i64 W, .int .i64 Q, .int .i64 D, V, .bool (decide (nx.1 < 0)), .slice B (digs nx.1.natAbs).length d, .int .i64 nx.2] := by have := hZ.1; simpa only [l12, hl, if_false, Bool.false_eq_true] using this
      clear hw hF
      simp only [Oper.wp, execOp]
      try simp only [e0e]
      go_simp
      refine (lsmall_v E1.out hrow B0.out).mono ?_
      rintro e x' ⟨rfl, hr, hg⟩
      exact hK _ x' rfl ⟨hg, grow_kept hg hrow (noint_rs HZ.out)⟩ ⟨by simpa [l12] using hr, fun _ => by simp⟩
    · simp only [wpOp, gAy, gSy, gZy, Region.wanted, if_true]
      refine Or.inl ?_
      have e0 : av.tmps.getD 10 undef = .int .i64 xw := (hw 7 (by kernel_rfl)).2
      have e0e : av.eval (.tmp 10) = .int .i64 xw := e0
      have e0g : av.tmps[10]?.getD undef = .int .i64 xw := by have := e0; simp only [Array.getD_eq_getD_getElem?] at this; exact this
      clear hw hF
      simp only [Oper.wp, execOp]
      try simp only [e0e]
      go_simp
      exact hK _ x (by first | rfl | (simp only [Nat.add_zero]; done) | (congr 1; omega)) (⟨World.grownBy.refl _ _, Kept.refl _⟩) (by simpa using hZ)
    · simp only [wpOp, gAy, gSy, gZy, Region.wanted, if_true]
      refine Or.inl ?_
      have e0 : av.tmps.getD 0 undef = .pointer (some ⟨g, 0, none⟩) := hF.2.2 0 (by decide)
      have e0e : av.eval (.tmp 0) = .pointer (some ⟨g, 0, none⟩) := e0
      have e0g : av.tmps[0]?.getD undef = .pointer (some ⟨g, 0, none⟩) := by have := e0; simp only [Array.getD_eq_getD_getElem?] at this; exact this
      clear hw hF
      simp only [Oper.wp, execOp]
      try simp only [e0e]
      go_simp
      exact hK _ x (by first | rfl | (simp only [Nat.add_zero]; done) | (congr 1; omega)) (⟨World.grownBy.refl _ _, Kept.refl _⟩) (by simpa using hZ)
    · simp only [wpOp, gAy, gSy, gZy, Region.wanted, if_true]
      refine Or.inl ?_
      have e0 : av.tmps.getD 12 undef = .pointer (some ⟨g, 0, none⟩) := (hw 9 (by kernel_rfl)).2
      have e0e : av.eval (.tmp 12) = .pointer (some ⟨g, 0, none⟩) := e0
      have e0g : av.tmps[12]?.getD undef = .pointer (some ⟨g, 0, none⟩) := by have := e0; simp only [Array.getD_eq_getD_getElem?] at this; exact this
      clear hw hF
      simp only [Oper.wp, execOp]
      try simp only [e0e]
      go_simp
      exact hK _ x (by first | rfl | (simp only [Nat.add_zero]; done) | (congr 1; omega)) (⟨World.grownBy.refl _ _, Kept.refl _⟩) (by simpa using hZ)
    · simp only [wpOp, gAy, gSy, gZy, Region.wanted, if_true]
      refine Or.inl ?_
      have e0 : av.tmps.getD 13 undef = .pointer (some ⟨g, 0, none⟩) := (hw 10 (by kernel_rfl)).2
      have e0e : av.eval (.tmp 13) = .pointer (some ⟨g, 0, none⟩) := e0
      have e0g : av.tmps[13]?.getD undef = .pointer (some ⟨g, 0, none⟩) := by have := e0; simp only [Array.getD_eq_getD_getElem?] at this; exact this
      clear hw hF
      simp only [Oper.wp, execOp]
      try simp only [e0e]
      go_simp
      exact hK _ x (by first | rfl | (simp only [Nat.add_zero]; done) | (congr 1; omega)) (⟨World.grownBy.refl _ _, Kept.refl _⟩) (by simpa using hZ)
    · simp only [wpOp, gAy, gSy, gZy, Region.wanted, if_true]
      refine Or.inl ?_
      have e0 : av.tmps.getD 14 undef = .pointer (some ⟨g, 0, none⟩) := (hw 11 (by kernel_rfl)).2
      have e0e : av.eval (.tmp 14) = .pointer (some ⟨g, 0, none⟩) := e0
      have e0g : av.tmps[14]?.getD undef = .pointer (some ⟨g, 0, none⟩) := by have := e0; simp only [Array.getD_eq_getD_getElem?] at this; exact this
      have l7 := (hw 7 (by kernel_rfl)).1
      have hrow : LB x g s1 [.int .i64 F, .int .i64 O, .bool (decide (a.1 < 0)), .slice A (digs a.1.natAbs).length c, .int .i64 a.2, .int .i64 W, .int .i64 Q, .int .i64 D, V, .bool (decide (nx.1 < 0)), .slice B (digs nx.1.natAbs).length d, .int .i64 nx.2] := by have := hZ.1; simpa only [hl, l7, if_true, if_false, Bool.false_eq_true] using this
      clear hw hF
      simp only [Oper.wp, execOp]
      try simp only [e0e]
      go_simp
      refine (lnumber_v E2.out hrow HZ.out B1.out.1).mono ?_
      rintro e x' ⟨A1, c1, rfl, hd, hr, hg⟩
      exact hK _ x' ⟨A1, c1, rfl, hd⟩ ⟨hg, grow_kept hg hrow (noint_rs HZ.out)⟩ ⟨by simpa using hr, fun _ => by simp [l7]⟩
    · simp only [wpOp, gAy, gSy, gZy, Region.wanted, if_true]
      refine Or.inl ?_
      have e0 : av.tmps.getD 6 undef = .agg #[.bool (decide (nx.1 < 0)), .slice B (digs nx.1.natAbs).length d, .int .i64 nx.2] := (hw 3 (by kernel_rfl)).2
      have e0e : av.eval (.tmp 6) = .agg #[.bool (decide (nx.1 < 0)), .slice B (digs nx.1.natAbs).length d, .int .i64 nx.2] := e0
      have e0g : av.tmps[6]?.getD undef = .agg #[.bool (decide (nx.1 < 0)), .slice B (digs nx.1.natAbs).length d, .int .i64 nx.2] := by have := e0; simp only [Array.getD_eq_getD_getElem?] at this; exact this
      have e1 : av.tmps.getD 11 undef = .int .i64 (xw - 128) := (hw 8 (by kernel_rfl)).2
      have e1e : av.eval (.tmp 11) = .int .i64 (xw - 128) := e1
      have e1g : av.tmps[11]?.getD undef = .int .i64 (xw - 128) := by have := e1; simp only [Array.getD_eq_getD_getElem?] at this; exact this
      obtain ⟨A1_2, c1_2, e2, hd2⟩ := (hw 12 (by kernel_rfl)).2
      have e2e : av.eval (.tmp 15) = .agg #[.bool (decide (er.1 < 0)), .slice A1_2 (digs er.1.natAbs).length c1_2, .int .i64 er.2] := e2
      have e2g : av.tmps[15]?.getD undef = .agg #[.bool (decide (er.1 < 0)), .slice A1_2 (digs er.1.natAbs).length c1_2, .int .i64 er.2] := by have := e2; simp only [Array.getD_eq_getD_getElem?] at this; exact this
      clear hw hF
      simp only [Oper.wp, execOp]
      try simp only [e0e, e1e, e2e]
      simp only [List.map_toArray, List.map_cons, List.map_nil, e0e, e1e, e2e]
      go_simp
      exact hK _ x ⟨_, _, rfl, hd2⟩ ⟨World.grownBy.refl _ _, Kept.refl _⟩ (by simpa using hZ)
    · simp only [wpOp, gAy, gSy, gZy, Region.wanted, if_true]
      refine Or.inl ?_
      clear hw hF
      simp only [Oper.wp, execOp]
      go_simp
      exact hK _ _ ⟨_, rfl, heap_alloc_new _ _, hb'.1.size⟩ ⟨grow_below (below1 _ _), Kept.below (below1 _ _)⟩ ⟨by simpa using hZ.1.alloc (.cells #[.bool false, .slice none 0 0, .int .i64 0, .int .i64 0, .slice none 0 0, .bool false, .slice none 0 0, .int .i64 0] 49), by simpa using hZ.2⟩
  · intro av x l hF hb' hR hl hZ
    have e0 : av.tmps.getD 3 undef = .pointer (some ⟨g, 0, none⟩) := hR 0 (by decide)
    have e1 : av.tmps.getD 4 undef = .pointer (some ⟨g, 0, none⟩) := hR 1 (by decide)
    have e2 : av.tmps.getD 5 undef = .pointer (some ⟨g, 11, none⟩) := hR 2 (by decide)
    have e3 : av.tmps.getD 6 undef = .agg #[.bool (decide (nx.1 < 0)), .slice B (digs nx.1.natAbs).length d, .int .i64 nx.2] := hR 3 (by decide)
    have e4 : av.tmps.getD 7 undef = .pointer (some ⟨g, 0, none⟩) := hR 4 (by decide)
    have e5 : av.tmps.getD 8 undef = .pointer (some ⟨g, 0, none⟩) := hR 5 (by decide)
    have e6 : av.tmps.getD 9 undef = .pointer (some ⟨g, 0, none⟩) := hR 6 (by decide)
    have e7 : av.tmps.getD 10 undef = .int .i64 xw := hR 7 (by decide)
    have e8 : av.tmps.getD 11 undef = .int .i64 (xw - 128) := hR 8 (by decide)
    have e9 : av.tmps.getD 12 undef = .pointer (some ⟨g, 0, none⟩) := hR 9 (by decide)
    have e10 : av.tmps.getD 13 undef = .pointer (some ⟨g, 0, none⟩) := hR 10 (by decide)
    have e11 : av.tmps.getD 14 undef = .pointer (some ⟨g, 0, none⟩) := hR 11 (by decide)
    obtain ⟨A1_12, c1_12, e12, hd12⟩ := hR 12 (by decide)
    replace e12 : av.tmps.getD 15 undef = .agg #[.bool (decide (er.1 < 0)), .slice A1_12 (digs er.1.natAbs).length c1_12, .int .i64 er.2] := e12
    obtain ⟨A1_13, c1_13, e13, hd13⟩ := hR 13 (by decide)
    replace e13 : av.tmps.getD 16 undef = .agg #[.bool (decide (nx.1 < 0)), .slice B (digs nx.1.natAbs).length d, .int .i64 nx.2, .int .i64 (xw - 128), .slice none 0 0, .bool (decide (er.1 < 0)), .slice A1_13 (digs er.1.natAbs).length c1_13, .int .i64 er.2] := e13
    obtain ⟨b14, e14, hg14, hn14⟩ := hR 14 (by decide)
    replace e14 : av.tmps.getD 2 undef = .pointer (some ⟨b14, 0, none⟩) := e14
    rw [hF.fold (by kernel_rfl)]
    simp only [List.foldl_cons, List.foldl_nil, e0, e1, e2, e3, e4, e5, e6, e7, e8, e9, e10, e11, e12, e13, e14]
    simp only [Act.put, List.setIfInBounds_toArray, List.set_cons_zero, List.set_cons_succ]
    change wpOps _ _ _ [15] _ _
    simp only [wpOps_cons]
    clear e0 e1 e2 e3 e4 e5 e6 e7 e8 e9 e10 e11 e12 e13 e14 hR hF
    have k12 := hl 12 (by decide)
    have HX := qH (show LB x g s2 [.int .i64 F, .int .i64 O, .bool (decide (a.1 < 0)), .slice A (digs a.1.natAbs).length c, .int .i64 a.2, .int .i64 W, .int .i64 Q, .int .i64 D, V, .bool (decide (nx.1 < 0)), .slice B (digs nx.1.natAbs).length d, .int .i64 nx.2] by have := hZ.1; simpa only [k12, if_true] using this)
    have GX := qH hb'
    have HP := qH hg14
    have HDE := qH hd13
    have HBN := qH hn14
    clear hZ hl hb' hg14 hd13 hd12 hn14 k12
    obtain ⟨p0, p1, p2, p3, p4, p5, p6, p7, _⟩ := ly8f HP.out
    have q0 := frozen_of_row _ _ 0 _ _ HP.out
    have q1 := frozen_of_row _ _ 1 _ _ HP.out
    have q2 := frozen_of_row _ _ 2 _ _ HP.out
    have q3 := frozen_of_row _ _ 3 _ _ HP.out
    have q4 := frozen_of_row _ _ 4 _ _ HP.out
    have q5 := frozen_of_row _ _ 5 _ _ HP.out
    have q6 := frozen_of_row _ _ 6 _ _ HP.out
    have q7 := frozen_of_row _ _ 7 _ _ HP.out
    try rw [wpOps_cons]
    simp only [wpOp, gAy, gSy, gZy, Region.wanted, if_true]
    refine Or.inl ?_
    simp only [Oper.wp, execOp]
    go_simp
    try simp only [wpOps]
    obtain ⟨w1, hW⟩ : ∃ V : World, ((((((((x.setCell ⟨b14, 0, none⟩ (.bool (decide (nx.1 < 0)))).setCell ⟨b14, 1, none⟩ (.slice B (digs nx.1.natAbs).length d)).setCell ⟨b14, 2, none⟩ (.int .i64 nx.2)).setCell ⟨b14, 3, none⟩ (.int .i64 (xw - 128))).setCell ⟨b14, 4, none⟩ (.slice none 0 0)).setCell ⟨b14, 5, none⟩ (.bool (decide (er.1 < 0)))).setCell ⟨b14, 6, none⟩ (.slice A1_13 (digs er.1.natAbs).length c1_13)).setCell ⟨b14, 7, none⟩ (.int .i64 er.2)) = V := ⟨_, rfl⟩
    rw [hW]
    have hO : Only b14 x w1 := by rw [← hW]; exact (((((((((Only.refl b14 x).setCell 0 _).setCell 1 _).setCell 2 _).setCell 3 _).setCell 4 _).setCell 5 _).setCell 6 _).setCell 7 _)
    have NE := qH (show b14 ≠ g from fun e => by have := HBN.out; have := GN.out; omega)
    have hk1 := hO.kept HP.out (noint_of (by intro u hu n e; subst e; simp at hu))
    have H1 := qH (show LB w1 g s2 [.int .i64 F, .int .i64 O, .bool (decide (a.1 < 0)), .slice A (digs a.1.natAbs).length c, .int .i64 a.2, .int .i64 W, .int .i64 Q, .int .i64 D, V, .bool (decide (nx.1 < 0)), .slice B (digs nx.1.natAbs).length d, .int .i64 nx.2] from (hO.block g (Ne.symm NE.out)).trans HX.out)
    have P1 := qH (show w1.heap[b14]? = some (.cells #[.bool (decide (nx.1 < 0)), .slice B (digs nx.1.natAbs).length d, .int .i64 nx.2, .int .i64 (xw - 128), .slice none 0 0, .bool (decide (er.1 < 0)), .slice A1_13 (digs er.1.natAbs).length c1_13, .int .i64 er.2] 49 (0, 0)) by rw [← hW]; exact (heap_setCell_same _ _ 7 _ _ _ (heap_setCell_same _ _ 6 _ _ _ (heap_setCell_same _ _ 5 _ _ _ (heap_setCell_same _ _ 4 _ _ _ (heap_setCell_same _ _ 3 _ _ _ (heap_setCell_same _ _ 2 _ _ _ (heap_setCell_same _ _ 1 _ _ _ (heap_setCell_same _ _ 0 _ _ _ HP.out)))))))))
    have G1 := qH (gk_own GX.out hO HBN.out hk1)
    have DN1 := qH (D0.out.kept G1.out.2)
    have DE1 := qH (HDE.out.kept hk1)
    have XL := qH (hO.size)
    clear hW hO hk1 p0 q0 p1 q1 p2 q2 p3 q3 p4 q4 p5 q5 p6 q6 p7 q7
    generalize b14 = pb at *
    generalize A1_13 = AE at *
    generalize c1_13 = cE at *
    have fD : w1.cell? ⟨g, 9, none⟩ = some (.int .i64 D) := row_c H1.out (i := 9) rfl
    have wD : wrap64 (D + 1) = D + 1 := IntWalk.wrap64_in _ ⟨by have := HDD.out; omega, by have := HDD.out; omega⟩
    go_wp2
    try rw [wD]
    clear fD wD
    go_loopw [23] (fun i wr => ∃ (j : Nat) (C : Value) (t : List UInt8 × Bool) (L : List (Int × Int)), j ≤ (D + 1).toNat ∧ i = .int .i64 j ∧ Hid (rdC j s2 = (L, t)) ∧ Hid (t.1.length ≤ 9223372036854775807) ∧ Hid (L.length = j) ∧ Hid (LB wr g t [.int .i64 F, .int .i64 O, .bool (decide (a.1 < 0)), .slice A (digs a.1.natAbs).length c, .int .i64 a.2, .int .i64 W, .int .i64 Q, .int .i64 D, V, .bool (decide (nx.1 < 0)), .slice B (digs nx.1.natAbs).length d, .int .i64 nx.2]) ∧ Hid (wr.heap[pb]? = some (.cells #[.bool (decide (nx.1 < 0)), .slice B (digs nx.1.natAbs).length d, .int .i64 nx.2, .int .i64 (xw - 128), C, .bool (decide (er.1 < 0)), .slice AE (digs er.1.natAbs).length cE, .int .i64 er.2] 49 (0, 0))) ∧ Hid (Dw wr w.heap.size C L) ∧ Hid (w.grownBy wr (some g) ∧ Kept w wr) ∧ Hid (Dg wr AE cE (digs er.1.natAbs))) (fun i _ => (D + 1).toNat - (intOf i).toNat)
    case atStart => exact ⟨0, .slice none 0 0, s2, [], Nat.zero_le _, rfl, qH rfl, qH B2.out.1, qH rfl, H1, P1, qH (dw_nil _ _), G1, DE1⟩
    case round =>
      obtain ⟨j, C, t, L, hj, rfl, HLQ, HTL, HLL, HLR, HPR, HCW, HGR, HDR2⟩ := hrel
      by_cases hlt : j < (D + 1).toNat
      · have HLT := qH hlt
        obtain ⟨q, t2, hq⟩ : ∃ q t2, rdN t = (q, t2) := ⟨_, _, rfl⟩
        have EQ := qH hq
        have BT2 := qH (qH (rdN_b hq HTL.out).1)
        have ER := qH (qH (show rdC (j + 1) s2 = (L ++ [q], t2) by unfold rdC; rw [HLQ.out]; dsimp only; rw [hq]))
        have HDR := qH (show LB wr.drew g t [.int .i64 F, .int .i64 O, .bool (decide (a.1 < 0)), .slice A (digs a.1.natAbs).length c, .int .i64 a.2, .int .i64 W, .int .i64 Q, .int .i64 D, V, .bool (decide (nx.1 < 0)), .slice B (digs nx.1.natAbs).length d, .int .i64 nx.2] from HLR.out)
        have hji : ((j : Nat) : Int) < D + 1 := by have := HDD.out; omega
        have HCF := qH (fun n : Int => HCW.out.no n)
        clear hq hlt
        go_upto_region 3 with (fail)
        refine wp_operandsZ (W := wr) rfl 7 [25, 26, 27, 28, 29, 30, 31] (fun i u x => match i with | 0 => u = .pointer (some ⟨pb, 4, none⟩) | 1 => u = C | 2 => u = .pointer (some ⟨g, 0, none⟩) | 3 => u = .pointer (some ⟨g, 0, none⟩) | 4 => u = .pointer (some ⟨g, 0, none⟩) | 5 => ∃ A2 c2, u = .agg #[.bool (decide (q.1 < 0)), .slice A2 (digs q.1.natAbs).length c2, .int .i64 q.2] ∧ Dg x A2 c2 (digs q.1.natAbs) | 6 => ∃ b A2 c2, u = .slice (some ⟨b, 0, none⟩) 1 1 ∧ x.heap[b]? = some (.cells #[.bool (decide (q.1 < 0)), .slice A2 (digs q.1.natAbs).length c2, .int .i64 q.2] 26 (0, 0)) ∧ b ≠ g ∧ Dg x A2 c2 (digs q.1.natAbs) | _ => True) (fun a b => a.grownBy b (some g) ∧ Kept a b) (fun l x => LB x g (if l 5 then t2 else t) [.int .i64 F, .int .i64 O, .bool (decide (a.1 < 0)), .slice A (digs a.1.natAbs).length c, .int .i64 a.2, .int .i64 W, .int .i64 Q, .int .i64 D, V, .bool (decide (nx.1 < 0)), .slice B (digs nx.1.natAbs).length d, .int .i64 nx.2])
          (by decide) rfl (by kernel_rfl) (by kernel_rfl) (by decide) (by kernel_rfl) (fun _ _ _ h k => ⟨grow_trans h.1 k.1, h.2.trans k.2⟩) ?_ (⟨grow_below (bd0 wr), Kept.below (bd0 wr)⟩) (by simpa using HDR.out) ?_ ?_
        · intro i u x x' hi hR hb'
          have hi' : i = 0 ∨ i = 1 ∨ i = 2 ∨ i = 3 ∨ i = 4 ∨ i = 5 ∨ i = 6 := by omega
          rcases hi' with rfl | rfl | rfl | rfl | rfl | rfl | rfl
          · exact hR
          · exact hR
          · exact hR
          · exact hR
          · exact hR
          · obtain ⟨A2, c2, e, hd⟩ := hR; exact ⟨A2, c2, e, hd.kept hb'.2⟩
          · obtain ⟨b, A2, c2, e, hg, hn, hd⟩ := hR; exact ⟨b, A2, c2, e, grow_row hb'.1 hg hn, hn, hd.kept hb'.2⟩
        · intro i av x l K hi hF hb' hl hw hZ hK
          have hi' : i = 0 ∨ i = 1 ∨ i = 2 ∨ i = 3 ∨ i = 4 ∨ i = 5 ∨ i = 6 := by omega
          rcases hi' with rfl | rfl | rfl | rfl | rfl | rfl | rfl
          · simp only [wpOp, gAy, gZy, Region.wanted, if_true]
            refine Or.inl ?_
            have e0 : av.tmps.getD 2 undef = .pointer (some ⟨pb, 0, none⟩) := hF.2.2 2 (by decide)
            have e0e : av.eval (.tmp 2) = .pointer (some ⟨pb, 0, none⟩) := e0
            have e0g : av.tmps[2]?.getD undef = .pointer (some ⟨pb, 0, none⟩) := by have := e0; simp only [Array.getD_eq_getD_getElem?] at this; exact this
            clear hw hF
            simp only [Oper.wp, execOp]
            try simp only [e0e]
            go_simp
            exact hK _ x (by first | rfl | (simp only [Nat.add_zero]; done) | (congr 1; omega)) (⟨World.grownBy.refl _ _, Kept.refl _⟩) (by simpa using hZ)
          · simp only [wpOp, gAy, gSy, gZy, Region.wanted, if_true]
            refine Or.inl ?_
            have e0 : av.tmps.getD 25 undef = .pointer (some ⟨pb, 4, none⟩) := (hw 0 (by kernel_rfl)).2
            have e0e : av.eval (.tmp 25) = .pointer (some ⟨pb, 4, none⟩) := e0
            have e0g : av.tmps[25]?.getD undef = .pointer (some ⟨pb, 4, none⟩) := by have := e0; simp only [Array.getD_eq_getD_getElem?] at this; exact this
            have f4 := row_c (grow_row hb'.1 HPR.out NE.out) (i := 4) rfl
            clear hw hF
            simp only [Oper.wp, execOp]
            try simp only [e0e]
            go_simp
            exact hK _ x (by first | rfl | (simp only [Nat.add_zero]; done) | (congr 1; omega)) (⟨World.grownBy.refl _ _, Kept.refl _⟩) (by simpa using hZ)
          · simp only [wpOp, gAy, gSy, gZy, Region.wanted, if_true]
            refine Or.inl ?_
            have e0 : av.tmps.getD 0 undef = .pointer (some ⟨g, 0, none⟩) := hF.2.2 0 (by decide)
            have e0e : av.eval (.tmp 0) = .pointer (some ⟨g, 0, none⟩) := e0
            have e0g : av.tmps[0]?.getD undef = .pointer (some ⟨g, 0, none⟩) := by have := e0; simp only [Array.getD_eq_getD_getElem?] at this; exact this
            clear hw hF
            simp only [Oper.wp, execOp]
            try simp only [e0e]
            go_simp
            exact hK _ x (by first | rfl | (simp only [Nat.add_zero]; done) | (congr 1; omega)) (⟨World.grownBy.refl _ _, Kept.refl _⟩) (by simpa using hZ)
          · simp only [wpOp, gAy, gSy, gZy, Region.wanted, if_true]
            refine Or.inl ?_
            have e0 : av.tmps.getD 27 undef = .pointer (some ⟨g, 0, none⟩) := (hw 2 (by kernel_rfl)).2
            have e0e : av.eval (.tmp 27) = .pointer (some ⟨g, 0, none⟩) := e0
            have e0g : av.tmps[27]?.getD undef = .pointer (some ⟨g, 0, none⟩) := by have := e0; simp only [Array.getD_eq_getD_getElem?] at this; exact this
            clear hw hF
            simp only [Oper.wp, execOp]
            try simp only [e0e]
            go_simp
            exact hK _ x (by first | rfl | (simp only [Nat.add_zero]; done) | (congr 1; omega)) (⟨World.grownBy.refl _ _, Kept.refl _⟩) (by simpa using hZ)
          · simp only [wpOp, gAy, gSy, gZy, Region.wanted, if_true]
            refine Or.inl ?_
            have e0 : av.tmps.getD 28 undef = .pointer (some ⟨g, 0, none⟩) := (hw 3 (by kernel_rfl)).2
            have e0e : av.eval (.tmp 28) = .pointer (some ⟨g, 0, none⟩) := e0
            have e0g : av.tmps[28]?.getD undef = .pointer (some ⟨g, 0, none⟩) := by have := e0; simp only [Array.getD_eq_getD_getElem?] at this; exact this
            clear hw hF
            simp only [Oper.wp, execOp]
            try simp only [e0e]
            go_simp
            exact hK _ x (by first | rfl | (simp only [Nat.add_zero]; done) | (congr 1; omega)) (⟨World.grownBy.refl _ _, Kept.refl _⟩) (by simpa using hZ)
          · simp only [wpOp, gAy, gSy, gZy, Region.wanted, if_true]
            refine Or.inl ?_
            have e0 : av.tmps.getD 29 undef = .pointer (some ⟨g, 0, none⟩) := (hw 4 (by kernel_rfl)).2
            have e0e : av.eval (.tmp 29) = .pointer (some ⟨g, 0, none⟩) := e0
            have e0g : av.tmps[29]?.getD undef = .pointer (some ⟨g, 0, none⟩) := by have := e0; simp only [Array.getD_eq_getD_getElem?] at this; exact this
            have hrow : LB x g t [.int .i64 F, .int .i64 O, .bool (decide (a.1 < 0)), .slice A (digs a.1.natAbs).length c, .int .i64 a.2, .int .i64 W, .int .i64 Q, .int .i64 D, V, .bool (decide (nx.1 < 0)), .slice B (digs nx.1.natAbs).length d, .int .i64 nx.2] := by have := hZ; simpa only [hl, if_false, Bool.false_eq_true] using this
            clear hw hF
            simp only [Oper.wp, execOp]
            try simp only [e0e]
            go_simp
            refine (lnumber_v EQ.out hrow HZ.out HTL.out).mono ?_
            rintro e x' ⟨A2, c2, rfl, hd, hr, hg⟩
            exact hK _ x' ⟨A2, c2, rfl, hd⟩ ⟨hg, grow_kept hg hrow (noint_rs HZ.out)⟩ (by simpa using hr)
          · simp only [wpOp, gAy, gSy, gZy, Region.wanted, if_true]
            refine Or.inl ?_
            obtain ⟨A2_0, c2_0, e0, hd0⟩ := (hw 5 (by kernel_rfl)).2
            have e0e : av.eval (.tmp 30) = .agg #[.bool (decide (q.1 < 0)), .slice A2_0 (digs q.1.natAbs).length c2_0, .int .i64 q.2] := e0
            have e0g : av.tmps[30]?.getD undef = .agg #[.bool (decide (q.1 < 0)), .slice A2_0 (digs q.1.natAbs).length c2_0, .int .i64 q.2] := by have := e0; simp only [Array.getD_eq_getD_getElem?] at this; exact this
            clear hw hF
            simp only [Oper.wp, execOp]
            try simp only [e0e]
            try simp only [List.map_toArray, List.map_cons, List.map_nil, e0e]
            go_simp
            have hgl := heap_lt hZ
            exact hK _ _ ⟨_, _, _, rfl, heap_alloc_new _ _, by omega, hd0.below (below1 _ _)⟩ ⟨grow_below (below1 _ _), Kept.below (below1 _ _)⟩ (by simpa using hZ.alloc (.cells #[.bool (decide (q.1 < 0)), .slice A2_0 (digs q.1.natAbs).length c2_0, .int .i64 q.2] 26))
        · intro av x l hF hb' hR hl hZ
          have e0 : av.tmps.getD 25 undef = .pointer (some ⟨pb, 4, none⟩) := hR 0 (by decide)
          have e1 : av.tmps.getD 26 undef = C := hR 1 (by decide)
          have e2 : av.tmps.getD 27 undef = .pointer (some ⟨g, 0, none⟩) := hR 2 (by decide)
          have e3 : av.tmps.getD 28 undef = .pointer (some ⟨g, 0, none⟩) := hR 3 (by decide)
          have e4 : av.tmps.getD 29 undef = .pointer (some ⟨g, 0, none⟩) := hR 4 (by decide)
          obtain ⟨A2_5, c2_5, e5, hd5⟩ := hR 5 (by decide)
          replace e5 : av.tmps.getD 30 undef = .agg #[.bool (decide (q.1 < 0)), .slice A2_5 (digs q.1.natAbs).length c2_5, .int .i64 q.2] := e5
          obtain ⟨b6, A2_6, c2_6, e6, hg6, hn6, hd6⟩ := hR 6 (by decide)
          replace e6 : av.tmps.getD 31 undef = .slice (some ⟨b6, 0, none⟩) 1 1 := e6
          rw [hF.fold (by kernel_rfl)]
          simp only [List.foldl_cons, List.foldl_nil, e0, e1, e2, e3, e4, e5, e6]
          simp only [Act.put, List.setIfInBounds_toArray, List.set_cons_zero, List.set_cons_succ]
          change wpOps _ _ _ [7, 8, 9] _ _
          simp only [wpOps_cons]
          clear e0 e1 e2 e3 e4 e5 e6 hR hF
          have k5 := hl 5 (by decide)
          have HX := qH (show LB x g t2 [.int .i64 F, .int .i64 O, .bool (decide (a.1 < 0)), .slice A (digs a.1.natAbs).length c, .int .i64 a.2, .int .i64 W, .int .i64 Q, .int .i64 D, V, .bool (decide (nx.1 < 0)), .slice B (digs nx.1.natAbs).length d, .int .i64 nx.2] by have := hZ; simpa only [k5, if_true] using this)
          have GX2 := qH hb'
          have HBR := qH hg6
          have HDB := qH hd6
          have HDW := qH (HCW.out.grow hb' (fun k hk => fun e => by have := HCW.out.ge hk; have := GN.out; omega))
          have HPX := qH (grow_row hb'.1 HPR.out NE.out)
          have HDX := qH (HDR2.out.kept hb'.2)
          have hbs := Nat.le_trans HGR.out.1.size hb'.1.size
          clear hZ hl hb' hg6 hn6 hd6 hd5 k5
          simp only [wpOp, gAy, gSy, gZy, Region.wanted, if_true]
          refine Or.inl ?_
          refine wp_append_dy (.tmp 26) (.tmp 31) rfl w.heap.size C L q.1 q.2 b6 _ 1 _ _ rfl HDW.out HBR.out HDB.out rfl (by have := HLL.out; have := HDD.out; omega) hbs ?_
          intro g7 cap w7 hdw hgr hkp hlie
          have hne7 : C.ownBlock ≠ some g := fun e => by have := HDW.out.ge e; have := GN.out; omega
          have H7 := qH (show LB w7 g t2 [.int .i64 F, .int .i64 O, .bool (decide (a.1 < 0)), .slice A (digs a.1.natAbs).length c, .int .i64 a.2, .int .i64 W, .int .i64 Q, .int .i64 D, V, .bool (decide (nx.1 < 0)), .slice B (digs nx.1.natAbs).length d, .int .i64 nx.2] from (hgr.block g (heap_lt HX.out) (fun e => hne7 e.symm)).trans HX.out)
          have P7 := qH ((hgr.block pb (heap_lt HPX.out) (fun e => HDW.out.neT HPX.out (by decide) e.symm)).trans HPX.out)
          have D7 := qH hdw
          have E7 := qH (HDX.out.kept hkp)
          have G7 := qH (gk_own2 (gk_trans HGR.out GX2.out) hgr hkp (fun k hk => HDW.out.ge hk))
          clear hdw hgr hkp hne7 hlie
          have f7 := row_c (i := 4) P7.out rfl
          have q7 := frozen_of_row _ _ 4 _ _ P7.out
          have x7 := heap_lt P7.out
          try rw [wpOps_cons]
          simp only [wpOp, gAy, gSy, gZy, Region.wanted, if_true]
          refine Or.inl ?_
          simp only [Oper.wp, execOp]
          go_simp
          try rw [wpOps_cons]
          simp only [wpOp, gAy, gSy, gZy, Region.wanted, if_true]
          refine Or.inl ?_
          simp only [Oper.wp, execOp]
          go_simp
          try simp only [wpOps]
          obtain ⟨w8, hW⟩ : ∃ V : World, w7.setCell ⟨pb, 4, none⟩ (.slice (some ⟨g7, 0, none⟩) (L.length + 1) cap) = V := ⟨_, rfl⟩
          rw [hW]
          have hO : Only pb w7 w8 := by rw [← hW]; exact (Only.refl pb w7).setCell 4 _
          have hk8 := hO.kept P7.out (noint_of (by intro u hu n e; subst e; simp at hu; exact HCF.out n hu.symm))
          have H8 := qH (show LB w8 g t2 [.int .i64 F, .int .i64 O, .bool (decide (a.1 < 0)), .slice A (digs a.1.natAbs).length c, .int .i64 a.2, .int .i64 W, .int .i64 Q, .int .i64 D, V, .bool (decide (nx.1 < 0)), .slice B (digs nx.1.natAbs).length d, .int .i64 nx.2] from (hO.block g (Ne.symm NE.out)).trans H7.out)
          have P8 := qH (show w8.heap[pb]? = some (.cells #[.bool (decide (nx.1 < 0)), .slice B (digs nx.1.natAbs).length d, .int .i64 nx.2, .int .i64 (xw - 128), .slice (some ⟨g7, 0, none⟩) (L.length + 1) cap, .bool (decide (er.1 < 0)), .slice AE (digs er.1.natAbs).length cE, .int .i64 er.2] 49 (0, 0)) by rw [← hW]; exact heap_setCell_same _ _ 4 _ _ _ P7.out)
          have D8 := qH (D7.out.only hO (D7.out.neT P7.out (by decide)) hk8)
          have E8 := qH (E7.out.kept hk8)
          have G8 := qH (gk_own G7.out hO HBN.out hk8)
          clear hW hO hk8 f7 q7 x7 hbs
          go_wp2
          go_roundw
          case rel =>
            have hl1 := HLT.out
            have hd1 := HDD.out
            have hw : wrap64 ((j : Int) + 1) = (j : Int) + 1 := IntWalk.wrap64_in _ ⟨by omega, by omega⟩
            exact ⟨j + 1, .slice (some ⟨g7, 0, none⟩) (L.length + 1) cap, t2, L ++ [q], HLT.out, by rw [hw]; exact congrArg _ (by omega), ER.out, BT2.out, by have := HLL.out; simp; omega, H8, P8, D8, G8, E8⟩
          case measure =>
            have hl1 := HLT.out
            have hd1 := HDD.out
            have hw : wrap64 ((j : Int) + 1) = (j : Int) + 1 := IntWalk.wrap64_in _ ⟨by omega, by omega⟩
            rw [hw]
            clear hw
            simp [intOf]; omega
      · have hje : (D + 1).toNat = j := by omega
        have hji : ¬ ((j : Nat) : Int) < D + 1 := by have := HDD.out; omega
        have hq : L = cs ∧ t = s3 := by have h1 := HLQ.out; have h3 := E3.out; rw [hje, h1] at h3; injection h3 with h1 h2; exact ⟨h1, h2⟩
        obtain ⟨rfl, rfl⟩ := hq
        obtain ⟨CP, cn, ck, rfl⟩ := HCW.out.form
        obtain ⟨rfl, hnr⟩ := HCW.out.nrl
        have HNR := qH hnr
        have HVR := qH (HV.out.gk HGR.out H0.out)
        have DNR := qH (D0.out.kept HGR.out.2)
        clear hnr hj hje hlt
        go_upto_region 5 with (fail)
        go_cut [35] from 35 to 46 (fun v35 wx => ∃ (g9 cap9 : Nat), Hid (LB wx g t [.int .i64 F, .int .i64 O, .bool (decide (a.1 < 0)), .slice A (digs a.1.natAbs).length c, .int .i64 a.2, .int .i64 W, .int .i64 Q, .int .i64 D, .slice (some ⟨g9, 0, none⟩) (ps.length + 1) cap9, .bool (decide (nx.1 < 0)), .slice B (digs nx.1.natAbs).length d, .int .i64 nx.2]) ∧ Hid (Pw wx W0.heap.size (.slice (some ⟨g9, 0, none⟩) (ps.length + 1) cap9) (ps ++ [⟨nx, xw - 128, L, er⟩])) ∧ Hid (Dg wx B d (digs nx.1.natAbs)) ∧ Hid (Gz W0.heap.size g w wx) ∧ Hid (wx.heap[pb]? = some (.cells #[.bool (decide (nx.1 < 0)), .slice B (digs nx.1.natAbs).length d, .int .i64 nx.2, .int .i64 (xw - 128), .slice CP L.length ck, .bool (decide (er.1 < 0)), .slice AE (digs er.1.natAbs).length cE, .int .i64 er.2] 49 (0, 0))))
        case first =>
          refine wp_operands_x (W := wr) rfl 0 8 6 5 [1, 2, 3, 4, 5, 6, 7] [35, 36, 37, 38, 39, 40, 41, 42] (fun i u x => match i with | 0 => u = .pointer (some ⟨g, 0, none⟩) | 1 => u = .pointer (some ⟨g, 0, none⟩) | 2 => u = .pointer (some ⟨g, 0, none⟩) | 3 => u = .pointer (some ⟨g, 2, none⟩) | 4 => u = .pointer (some ⟨g, 10, none⟩) | 5 => u = V | 6 => u = .agg #[.bool (decide (nx.1 < 0)), .slice B (digs nx.1.natAbs).length d, .int .i64 nx.2, .int .i64 (xw - 128), .slice CP L.length ck, .bool (decide (er.1 < 0)), .slice AE (digs er.1.natAbs).length cE, .int .i64 er.2] | 7 => ∃ g, u = .slice (some ⟨g, 0, none⟩) 1 1 ∧ x.heap[g]? = some (.cells #[.bool (decide (nx.1 < 0)), .slice B (digs nx.1.natAbs).length d, .int .i64 nx.2, .int .i64 (xw - 128), .slice CP L.length ck, .bool (decide (er.1 < 0)), .slice AE (digs er.1.natAbs).length cE, .int .i64 er.2] 49 (0, 0)) | _ => True)
            (by kernel_rfl) (by decide) (by decide) (by decide) (by kernel_rfl) (by kernel_rfl) (by kernel_rfl) (by decide) (by kernel_rfl) (by kernel_rfl) (by kernel_rfl) ?_ ?_ ?_
          · intro i u x x' hi hR hb'
            have hi' : i = 0 ∨ i = 1 ∨ i = 2 ∨ i = 3 ∨ i = 4 ∨ i = 5 ∨ i = 6 ∨ i = 7 := by simpa using hi
            rcases hi' with rfl | rfl | rfl | rfl | rfl | rfl | rfl | rfl
            · exact hR
            · exact hR
            · exact hR
            · exact hR
            · exact hR
            · exact hR
            · exact hR
            · obtain ⟨g, e, hg⟩ := hR; exact ⟨g, e, (hb'.block g (heap_lt hg)).trans hg⟩
          · intro i av x K hi hF hb' hw hK
            have hi' : i = 0 ∨ i = 1 ∨ i = 2 ∨ i = 3 ∨ i = 4 ∨ i = 5 ∨ i = 6 ∨ i = 7 := by simpa using hi
            rcases hi' with rfl | rfl | rfl | rfl | rfl | rfl | rfl | rfl
            · simp only [wpOp, gAy, gZy, Region.wanted, if_true]
              refine Or.inl ?_
              have e0 : av.tmps.getD 0 undef = .pointer (some ⟨g, 0, none⟩) := hF.2.2 0 (by decide)
              have e0e : av.eval (.tmp 0) = .pointer (some ⟨g, 0, none⟩) := e0
              have e0g : av.tmps[0]?.getD undef = .pointer (some ⟨g, 0, none⟩) := by have := e0; simp only [Array.getD_eq_getD_getElem?] at this; exact this
              clear hw hF
              simp only [Oper.wp, execOp]
              try simp only [e0e]
              go_simp
              exact hK _ x (by first | rfl | (simp only [Nat.add_zero]; done) | (congr 1; omega)) (Below.refl _ _)
            · simp only [wpOp, gAy, gSy, gZy, Region.wanted, if_true]
              refine Or.inl ?_
              have e0 : av.tmps.getD 0 undef = .pointer (some ⟨g, 0, none⟩) := hF.2.2 0 (by decide)
              have e0e : av.eval (.tmp 0) = .pointer (some ⟨g, 0, none⟩) := e0
              have e0g : av.tmps[0]?.getD undef = .pointer (some ⟨g, 0, none⟩) := by have := e0; simp only [Array.getD_eq_getD_getElem?] at this; exact this
              clear hw hF
              simp only [Oper.wp, execOp]
              try simp only [e0e]
              go_simp
              exact hK _ x (by first | rfl | (simp only [Nat.add_zero]; done) | (congr 1; omega)) (Below.refl _ _)
            · simp only [wpOp, gAy, gSy, gZy, Region.wanted, if_true]
              refine Or.inl ?_
              have e0 : av.tmps.getD 36 undef = .pointer (some ⟨g, 0, none⟩) := hw 1 (by kernel_rfl)
              have e0e : av.eval (.tmp 36) = .pointer (some ⟨g, 0, none⟩) := e0
              have e0g : av.tmps[36]?.getD undef = .pointer (some ⟨g, 0, none⟩) := by have := e0; simp only [Array.getD_eq_getD_getElem?] at this; exact this
              clear hw hF
              simp only [Oper.wp, execOp]
              try simp only [e0e]
              go_simp
              exact hK _ x (by first | rfl | (simp only [Nat.add_zero]; done) | (congr 1; omega)) (Below.refl _ _)
            · simp only [wpOp, gAy, gSy, gZy, Region.wanted, if_true]
              refine Or.inl ?_
              have e0 : av.tmps.getD 37 undef = .pointer (some ⟨g, 0, none⟩) := hw 2 (by kernel_rfl)
              have e0e : av.eval (.tmp 37) = .pointer (some ⟨g, 0, none⟩) := e0
              have e0g : av.tmps[37]?.getD undef = .pointer (some ⟨g, 0, none⟩) := by have := e0; simp only [Array.getD_eq_getD_getElem?] at this; exact this
              clear hw hF
              simp only [Oper.wp, execOp]
              try simp only [e0e]
              go_simp
              exact hK _ x (by first | rfl | (simp only [Nat.add_zero]; done) | (congr 1; omega)) (Below.refl _ _)
            · simp only [wpOp, gAy, gSy, gZy, Region.wanted, if_true]
              refine Or.inl ?_
              have e0 : av.tmps.getD 38 undef = .pointer (some ⟨g, 2, none⟩) := hw 3 (by kernel_rfl)
              have e0e : av.eval (.tmp 38) = .pointer (some ⟨g, 2, none⟩) := e0
              have e0g : av.tmps[38]?.getD undef = .pointer (some ⟨g, 2, none⟩) := by have := e0; simp only [Array.getD_eq_getD_getElem?] at this; exact this
              clear hw hF
              simp only [Oper.wp, execOp]
              try simp only [e0e]
              go_simp
              exact hK _ x (by first | rfl | (simp only [Nat.add_zero]; done) | (congr 1; omega)) (Below.refl _ _)
            · simp only [wpOp, gAy, gSy, gZy, Region.wanted, if_true]
              refine Or.inl ?_
              have e0 : av.tmps.getD 39 undef = .pointer (some ⟨g, 10, none⟩) := hw 4 (by kernel_rfl)
              have e0e : av.eval (.tmp 39) = .pointer (some ⟨g, 10, none⟩) := e0
              have e0g : av.tmps[39]?.getD undef = .pointer (some ⟨g, 10, none⟩) := by have := e0; simp only [Array.getD_eq_getD_getElem?] at this; exact this
              have f10 := row_c (cells_of HLR.out hb') (i := 10) rfl
              clear hw hF
              simp only [Oper.wp, execOp]
              try simp only [e0e]
              go_simp
              exact hK _ x (by first | rfl | (simp only [Nat.add_zero]; done) | (congr 1; omega)) (Below.refl _ _)
            · simp only [wpOp, gAy, gSy, gZy, Region.wanted, if_true]
              refine Or.inl ?_
              have e0 : av.tmps.getD 2 undef = .pointer (some ⟨pb, 0, none⟩) := hF.2.2 2 (by decide)
              have e0e : av.eval (.tmp 2) = .pointer (some ⟨pb, 0, none⟩) := e0
              have e0g : av.tmps[2]?.getD undef = .pointer (some ⟨pb, 0, none⟩) := by have := e0; simp only [Array.getD_eq_getD_getElem?] at this; exact this
              have p0 := row_c (cells_of HPR.out hb') (i := 0) rfl
              have p1 := row_c (cells_of HPR.out hb') (i := 1) rfl
              have p2 := row_c (cells_of HPR.out hb') (i := 2) rfl
              have p3 := row_c (cells_of HPR.out hb') (i := 3) rfl
              have p4 := row_c (cells_of HPR.out hb') (i := 4) rfl
              have p5 := row_c (cells_of HPR.out hb') (i := 5) rfl
              have p6 := row_c (cells_of HPR.out hb') (i := 6) rfl
              have p7 := row_c (cells_of HPR.out hb') (i := 7) rfl
              clear hw hF
              simp only [Oper.wp, execOp]
              try simp only [e0e]
              go_simp
              exact hK _ x (by first | rfl | (simp only [Nat.add_zero]; done) | (congr 1; omega)) (Below.refl _ _)
            · simp only [wpOp, gAy, gSy, gZy, Region.wanted, if_true]
              refine Or.inl ?_
              have e0 : av.tmps.getD 41 undef = .agg #[.bool (decide (nx.1 < 0)), .slice B (digs nx.1.natAbs).length d, .int .i64 nx.2, .int .i64 (xw - 128), .slice CP L.length ck, .bool (decide (er.1 < 0)), .slice AE (digs er.1.natAbs).length cE, .int .i64 er.2] := hw 6 (by kernel_rfl)
              have e0e : av.eval (.tmp 41) = .agg #[.bool (decide (nx.1 < 0)), .slice B (digs nx.1.natAbs).length d, .int .i64 nx.2, .int .i64 (xw - 128), .slice CP L.length ck, .bool (decide (er.1 < 0)), .slice AE (digs er.1.natAbs).length cE, .int .i64 er.2] := e0
              have e0g : av.tmps[41]?.getD undef = .agg #[.bool (decide (nx.1 < 0)), .slice B (digs nx.1.natAbs).length d, .int .i64 nx.2, .int .i64 (xw - 128), .slice CP L.length ck, .bool (decide (er.1 < 0)), .slice AE (digs er.1.natAbs).length cE, .int .i64 er.2] := by have := e0; simp only [Array.getD_eq_getD_getElem?] at this; exact this
              clear hw hF
              simp only [Oper.wp, execOp]
              try simp only [e0e]
              go_simp
              exact hK _ _ ⟨_, rfl, heap_alloc_new _ _⟩ ((Below.refl _ _).alloc (Nat.le_refl _) _)
          · intro av x hF0 hb' hR
            have hF : Fr6 [35, 36, 37, 38, 39, 40, 41, 42] _ av := hF0
            have e1 : av.tmps.getD 36 undef = .pointer (some ⟨g, 0, none⟩) := hR 1 (by decide)
            have e2 : av.tmps.getD 37 undef = .pointer (some ⟨g, 0, none⟩) := hR 2 (by decide)
            have e3 : av.tmps.getD 38 undef = .pointer (some ⟨g, 2, none⟩) := hR 3 (by decide)
            have e4 : av.tmps.getD 39 undef = .pointer (some ⟨g, 10, none⟩) := hR 4 (by decide)
            have e5 : av.tmps.getD 40 undef = V := hR 5 (by decide)
            have e6 : av.tmps.getD 41 undef = .agg #[.bool (decide (nx.1 < 0)), .slice B (digs nx.1.natAbs).length d, .int .i64 nx.2, .int .i64 (xw - 128), .slice CP L.length ck, .bool (decide (er.1 < 0)), .slice AE (digs er.1.natAbs).length cE, .int .i64 er.2] := hR 6 (by decide)
            obtain ⟨gg7, e7, hg7⟩ := hR 7 (by decide)
            replace e7 : av.tmps.getD 42 undef = .slice (some ⟨gg7, 0, none⟩) 1 1 := e7
            refine ⟨fun f => ?_, fun hx f => ?_⟩
            · rw [hF.fold (by kernel_rfl)]
              simp only [List.foldl_cons, List.foldl_nil, e1, e2, e3, e4, e5, e6, e7]
              generalize av.tmps.getD 35 undef = vx at *
              simp only [Act.put, List.setIfInBounds_toArray, List.set_cons_zero, List.set_cons_succ]
              clear e1 e2 e3 e4 e5 e6 e7 hR hF hF0
              change wpAny _ _ _ _ (f + 6) _ _ _
              have HBX := qH hg7
              have LX := qH (show LB x g t [.int .i64 F, .int .i64 O, .bool (decide (a.1 < 0)), .slice A (digs a.1.natAbs).length c, .int .i64 a.2, .int .i64 W, .int .i64 Q, .int .i64 D, V, .bool (decide (nx.1 < 0)), .slice B (digs nx.1.natAbs).length d, .int .i64 nx.2] from cells_of HLR.out hb')
              have PX := qH (cells_of HPR.out hb')
              have VX := qH ((HVR.out).gk ⟨grow_below hb', Kept.below hb'⟩ HLR.out)
              have NX := qH (HNR.out.gz (Gz.below (N := W0.heap.size) (g := g) hb') HLR.out (by decide))
              have AX := qH (DNR.out.below hb')
              have EX := qH (HDR2.out.below hb')
              have ZX := qH ((Gz.grown (N := W0.heap.size) HGR.out.1 HGR.out.2).trans (Gz.below hb'))
              have SX := qH (Nat.le_trans HGR.out.1.size hb'.size)
              have hbs : W0.heap.size ≤ x.heap.size := Nat.le_trans (Nat.le_trans HG.out (Nat.le_of_lt GN.out)) SX.out
              clear hb' hg7
              refine wpAny_go2 (fuel := f + 5) (i := 0) (j := 8) (by kernel_rfl) ?_ ?_
              · simp only [wpOp, gAy, gSy, gZy, Region.wanted, if_true]
                refine Or.inl ?_
                simp only [Oper.wp, execOp]
                go_simp
                refine wpAny_go1 (fuel := f + 4) (i := 8) (by kernel_rfl) ?_
                simp only [wpOp, gAy, gSy, gZy, Region.wanted, if_true]
                refine Or.inl ?_
                refine wp_append_pc (.tmp 40) (.tmp 42) rfl W0.heap.size g V ps ⟨nx, xw - 128, L, er⟩ gg7 _ 1 _ _ _ _ _ _ rfl VX.out HBX.out AX.out NX.out EX.out rfl (by have := HN.out; omega) hbs LX.out (by decide) ?_
                intro g9 cap9 w9 hpw hgr hgz
                have hvg : V.ownBlock ≠ some g := VX.out.neT LX.out (by decide)
                have L9 := qH (show LB w9 g t [.int .i64 F, .int .i64 O, .bool (decide (a.1 < 0)), .slice A (digs a.1.natAbs).length c, .int .i64 a.2, .int .i64 W, .int .i64 Q, .int .i64 D, V, .bool (decide (nx.1 < 0)), .slice B (digs nx.1.natAbs).length d, .int .i64 nx.2] from (hgr.block g (heap_lt LX.out) (fun e => hvg e.symm)).trans LX.out)
                have P9 := qH ((hgr.block pb (heap_lt PX.out) (fun e => by have := (HV.out.lt e.symm).2; have := HBN.out; omega)).trans PX.out)
                have V9 := qH hpw
                have A9 := qH (AX.out.kept hgz.1)
                have Z9 := qH (ZX.out.trans hgz)
                clear hpw hgr hgz hvg hbs
                have f9 := row_c (i := 10) L9.out rfl
                have q9 := frozen_of_row _ _ 10 _ _ L9.out
                have x9 := heap_lt L9.out
                refine wpAny_go1 (fuel := f + 3) (i := 9) (by kernel_rfl) ?_
                simp only [wpOp, gAy, gSy, gZy, Region.wanted, if_true]
                refine Or.inl ?_
                simp only [Oper.wp, execOp]
                go_simp
                refine wpAny_go1 (fuel := f + 2) (i := 10) (by kernel_rfl) ?_
                simp only [wpOp, gAy, gSy, gZy, Region.wanted, if_true]
                refine Or.inl ?_
                simp only [Oper.wp, execOp]
                go_simp
                refine wpAny_go1 (fuel := f + 1) (i := 11) (by kernel_rfl) ?_
                simp only [wpOp, gAy, gSy, gZy, Region.wanted, if_true]
                refine Or.inl ?_
                simp only [Oper.wp, execOp]
                go_simp
                refine wpAny_go1 (fuel := f + 0) (i := 12) (by kernel_rfl) ?_
                simp only [wpOp, gAy, gSy, gZy, Region.wanted, if_true]
                refine Or.inl ?_
                simp only [Oper.wp, execOp]
                go_simp
                refine wpAny_end (by kernel_rfl) ?_
                obtain ⟨w10, hW⟩ : ∃ V : World, w9.setCell ⟨g, 10, none⟩ (.slice (some ⟨g9, 0, none⟩) (ps.length + 1) cap9) = V := ⟨_, rfl⟩
                rw [hW]
                have hO : Only g w9 w10 := by rw [← hW]; exact (Only.refl g w9).setCell 10 _
                have hk10 := hO.kept L9.out (noint_rs HZ.out)
                have L10 := qH (show LB w10 g t [.int .i64 F, .int .i64 O, .bool (decide (a.1 < 0)), .slice A (digs a.1.natAbs).length c, .int .i64 a.2, .int .i64 W, .int .i64 Q, .int .i64 D, .slice (some ⟨g9, 0, none⟩) (ps.length + 1) cap9, .bool (decide (nx.1 < 0)), .slice B (digs nx.1.natAbs).length d, .int .i64 nx.2] by rw [← hW]; exact L9.out.setr 8 _)
                have gk10 : w9.grownBy w10 (some g) ∧ Kept w9 w10 := ⟨by rw [← hW]; exact grow_set _ _ _ _, hk10⟩
                have V10 := qH (V9.out.gk gk10 L9.out)
                have A10 := qH (A9.out.kept hk10)
                have Z10 := qH (Z9.out.trans (Gz.grown gk10.1 gk10.2))
                have P10 := qH ((hO.block pb NE.out).trans P9.out)
                clear hW hO hk10 gk10 f9 q9 x9
                go_wp2_with fail
                go_meet
                exact ⟨g9, cap9, L10, V10, A10, Z10, P10⟩
              · simp only [wpOp, gAy, gSy, gZy, Region.wanted, if_true]
                refine Or.inl ?_
                refine wp_append_pc (.tmp 40) (.tmp 42) rfl W0.heap.size g V ps ⟨nx, xw - 128, L, er⟩ gg7 _ 1 _ _ _ _ _ _ rfl VX.out HBX.out AX.out NX.out EX.out rfl (by have := HN.out; omega) hbs LX.out (by decide) ?_
                intro g9 cap9 w9 hpw hgr hgz
                have hvg : V.ownBlock ≠ some g := VX.out.neT LX.out (by decide)
                have L9 := qH (show LB w9 g t [.int .i64 F, .int .i64 O, .bool (decide (a.1 < 0)), .slice A (digs a.1.natAbs).length c, .int .i64 a.2, .int .i64 W, .int .i64 Q, .int .i64 D, V, .bool (decide (nx.1 < 0)), .slice B (digs nx.1.natAbs).length d, .int .i64 nx.2] from (hgr.block g (heap_lt LX.out) (fun e => hvg e.symm)).trans LX.out)
                have P9 := qH ((hgr.block pb (heap_lt PX.out) (fun e => by have := (HV.out.lt e.symm).2; have := HBN.out; omega)).trans PX.out)
                have V9 := qH hpw
                have A9 := qH (AX.out.kept hgz.1)
                have Z9 := qH (ZX.out.trans hgz)
                clear hpw hgr hgz hvg hbs
                have f9 := row_c (i := 10) L9.out rfl
                have q9 := frozen_of_row _ _ 10 _ _ L9.out
                have x9 := heap_lt L9.out
                refine wpAny_go1 (fuel := f + 4) (i := 0) (by kernel_rfl) ?_
                simp only [wpOp, gAy, gSy, gZy, Region.wanted, if_true]
                refine Or.inl ?_
                simp only [Oper.wp, execOp]
                go_simp
                refine wpAny_go1 (fuel := f + 3) (i := 9) (by kernel_rfl) ?_
                simp only [wpOp, gAy, gSy, gZy, Region.wanted, if_true]
                refine Or.inl ?_
                simp only [Oper.wp, execOp]
                go_simp
                refine wpAny_go1 (fuel := f + 2) (i := 10) (by kernel_rfl) ?_
                simp only [wpOp, gAy, gSy, gZy, Region.wanted, if_true]
                refine Or.inl ?_
                simp only [Oper.wp, execOp]
                go_simp
                refine wpAny_go1 (fuel := f + 1) (i := 11) (by kernel_rfl) ?_
                simp only [wpOp, gAy, gSy, gZy, Region.wanted, if_true]
                refine Or.inl ?_
                simp only [Oper.wp, execOp]
                go_simp
                refine wpAny_go1 (fuel := f + 0) (i := 12) (by kernel_rfl) ?_
                simp only [wpOp, gAy, gSy, gZy, Region.wanted, if_true]
                refine Or.inl ?_
                simp only [Oper.wp, execOp]
                go_simp
                refine wpAny_end (by kernel_rfl) ?_
                obtain ⟨w10, hW⟩ : ∃ V : World, w9.setCell ⟨g, 10, none⟩ (.slice (some ⟨g9, 0, none⟩) (ps.length + 1) cap9) = V := ⟨_, rfl⟩
                rw [hW]
                have hO : Only g w9 w10 := by rw [← hW]; exact (Only.refl g w9).setCell 10 _
                have hk10 := hO.kept L9.out (noint_rs HZ.out)
                have L10 := qH (show LB w10 g t [.int .i64 F, .int .i64 O, .bool (decide (a.1 < 0)), .slice A (digs a.1.natAbs).length c, .int .i64 a.2, .int .i64 W, .int .i64 Q, .int .i64 D, .slice (some ⟨g9, 0, none⟩) (ps.length + 1) cap9, .bool (decide (nx.1 < 0)), .slice B (digs nx.1.natAbs).length d, .int .i64 nx.2] by rw [← hW]; exact L9.out.setr 8 _)
                have gk10 : w9.grownBy w10 (some g) ∧ Kept w9 w10 := ⟨by rw [← hW]; exact grow_set _ _ _ _, hk10⟩
                have V10 := qH (V9.out.gk gk10 L9.out)
                have A10 := qH (A9.out.kept hk10)
                have Z10 := qH (Z9.out.trans (Gz.grown gk10.1 gk10.2))
                have P10 := qH ((hO.block pb NE.out).trans P9.out)
                clear hW hO hk10 gk10 f9 q9 x9
                go_wp2_with fail
                go_meet
                exact ⟨g9, cap9, L10, V10, A10, Z10, P10⟩
            · have e0 : av.tmps.getD 35 undef = .pointer (some ⟨g, 0, none⟩) := hx
              rw [hF.fold (by kernel_rfl)]
              simp only [List.foldl_cons, List.foldl_nil, e1, e2, e3, e4, e5, e6, e7, e0]
              simp only [Act.put, List.setIfInBounds_toArray, List.set_cons_zero, List.set_cons_succ]
              clear e1 e2 e3 e4 e5 e6 e7 e0 hR hF hF0 hx
              change wpAny _ _ _ _ (f + 5) _ _ _
              have HBX := qH hg7
              have LX := qH (show LB x g t [.int .i64 F, .int .i64 O, .bool (decide (a.1 < 0)), .slice A (digs a.1.natAbs).length c, .int .i64 a.2, .int .i64 W, .int .i64 Q, .int .i64 D, V, .bool (decide (nx.1 < 0)), .slice B (digs nx.1.natAbs).length d, .int .i64 nx.2] from cells_of HLR.out hb')
              have PX := qH (cells_of HPR.out hb')
              have VX := qH ((HVR.out).gk ⟨grow_below hb', Kept.below hb'⟩ HLR.out)
              have NX := qH (HNR.out.gz (Gz.below (N := W0.heap.size) (g := g) hb') HLR.out (by decide))
              have AX := qH (DNR.out.below hb')
              have EX := qH (HDR2.out.below hb')
              have ZX := qH ((Gz.grown (N := W0.heap.size) HGR.out.1 HGR.out.2).trans (Gz.below hb'))
              have SX := qH (Nat.le_trans HGR.out.1.size hb'.size)
              have hbs : W0.heap.size ≤ x.heap.size := Nat.le_trans (Nat.le_trans HG.out (Nat.le_of_lt GN.out)) SX.out
              clear hb' hg7
              refine wpAny_go1 (fuel := f + 4) (i := 8) (by kernel_rfl) ?_
              simp only [wpOp, gAy, gSy, gZy, Region.wanted, if_true]
              refine Or.inl ?_
              refine wp_append_pc (.tmp 40) (.tmp 42) rfl W0.heap.size g V ps ⟨nx, xw - 128, L, er⟩ gg7 _ 1 _ _ _ _ _ _ rfl VX.out HBX.out AX.out NX.out EX.out rfl (by have := HN.out; omega) hbs LX.out (by decide) ?_
              intro g9 cap9 w9 hpw hgr hgz
              have hvg : V.ownBlock ≠ some g := VX.out.neT LX.out (by decide)
              have L9 := qH (show LB w9 g t [.int .i64 F, .int .i64 O, .bool (decide (a.1 < 0)), .slice A (digs a.1.natAbs).length c, .int .i64 a.2, .int .i64 W, .int .i64 Q, .int .i64 D, V, .bool (decide (nx.1 < 0)), .slice B (digs nx.1.natAbs).length d, .int .i64 nx.2] from (hgr.block g (heap_lt LX.out) (fun e => hvg e.symm)).trans LX.out)
              have P9 := qH ((hgr.block pb (heap_lt PX.out) (fun e => by have := (HV.out.lt e.symm).2; have := HBN.out; omega)).trans PX.out)
              have V9 := qH hpw
              have A9 := qH (AX.out.kept hgz.1)
              have Z9 := qH (ZX.out.trans hgz)
              clear hpw hgr hgz hvg hbs
              have f9 := row_c (i := 10) L9.out rfl
              have q9 := frozen_of_row _ _ 10 _ _ L9.out
              have x9 := heap_lt L9.out
              refine wpAny_go1 (fuel := f + 3) (i := 9) (by kernel_rfl) ?_
              simp only [wpOp, gAy, gSy, gZy, Region.wanted, if_true]
              refine Or.inl ?_
              simp only [Oper.wp, execOp]
              go_simp
              refine wpAny_go1 (fuel := f + 2) (i := 10) (by kernel_rfl) ?_
              simp only [wpOp, gAy, gSy, gZy, Region.wanted, if_true]
              refine Or.inl ?_
              simp only [Oper.wp, execOp]
              go_simp
              refine wpAny_go1 (fuel := f + 1) (i := 11) (by kernel_rfl) ?_
              simp only [wpOp, gAy, gSy, gZy, Region.wanted, if_true]
              refine Or.inl ?_
              simp only [Oper.wp, execOp]
              go_simp
              refine wpAny_go1 (fuel := f + 0) (i := 12) (by kernel_rfl) ?_
              simp only [wpOp, gAy, gSy, gZy, Region.wanted, if_true]
              refine Or.inl ?_
              simp only [Oper.wp, execOp]
              go_simp
              refine wpAny_end (by kernel_rfl) ?_
              obtain ⟨w10, hW⟩ : ∃ V : World, w9.setCell ⟨g, 10, none⟩ (.slice (some ⟨g9, 0, none⟩) (ps.length + 1) cap9) = V := ⟨_, rfl⟩
              rw [hW]
              have hO : Only g w9 w10 := by rw [← hW]; exact (Only.refl g w9).setCell 10 _
              have hk10 := hO.kept L9.out (noint_rs HZ.out)
              have L10 := qH (show LB w10 g t [.int .i64 F, .int .i64 O, .bool (decide (a.1 < 0)), .slice A (digs a.1.natAbs).length c, .int .i64 a.2, .int .i64 W, .int .i64 Q, .int .i64 D, .slice (some ⟨g9, 0, none⟩) (ps.length + 1) cap9, .bool (decide (nx.1 < 0)), .slice B (digs nx.1.natAbs).length d, .int .i64 nx.2] by rw [← hW]; exact L9.out.setr 8 _)
              have gk10 : w9.grownBy w10 (some g) ∧ Kept w9 w10 := ⟨by rw [← hW]; exact grow_set _ _ _ _, hk10⟩
              have V10 := qH (V9.out.gk gk10 L9.out)
              have A10 := qH (A9.out.kept hk10)
              have Z10 := qH (Z9.out.trans (Gz.grown gk10.1 gk10.2))
              have P10 := qH ((hO.block pb NE.out).trans P9.out)
              clear hW hO hk10 gk10 f9 q9 x9
              go_wp2_with fail
              go_meet
              exact ⟨g9, cap9, L10, V10, A10, Z10, P10⟩
        case rest =>
          obtain ⟨g9, cap9, L10, V10, A10, Z10, P10⟩ := hcut
          obtain ⟨w10, hwl⟩ : ∃ x : World, wc = x := ⟨_, rfl⟩
          subst wc
          have BB10 := qH (Z10.out.base HBW.out HBW.out.size HG.out)
          have T10 := qH (t32_below HT.out BB10.out)
          have NZ10 := qH (show ∀ u, u ∈ ([.int .i64 F, .int .i64 O, .bool (decide (a.1 < 0)), .slice A (digs a.1.natAbs).length c, .int .i64 a.2, .int .i64 W, .int .i64 Q, .int .i64 D, .slice (some ⟨g9, 0, none⟩) (ps.length + 1) cap9, .bool (decide (nx.1 < 0)), .slice B (digs nx.1.natAbs).length d, .int .i64 nx.2] : List Value) → ∀ n : Int, u ≠ .int .u32 n by intro u hu n e; subst e; simp at hu)
          clear HLR HPR HCW HGR HDR2 HVR DNR
          go_upto_region 6 with (fail)
          obtain ⟨tt, htt⟩ : ∃ t : Int, t = 1 := ⟨_, rfl⟩
          obtain ⟨M, EE, VE, his, htot⟩ := nxt_is nx.1 nx.2 (xw - 128) E4.out
          rw [← htt] at his
          have HIS := qH his
          have HTOT := qH htot
          have HTT := qH htt
          have RTT := qH (show Rt tt (xw - 128) by have := B1.out; subst htt; exact ⟨.inr rfl, by omega, by omega⟩)
          have LTT := qH (show (digs tt.natAbs).length ≤ 10000 by subst htt; exact Nat.le_trans (digs_small (by decide)) (by decide))
          clear his htot htt
          refine wp_operands_x (W := w10) rfl 11 12 4 3 [0, 1, 2, 3, 4, 5, 6, 7, 8, 9, 10] [48, 49, 50, 51, 52, 53, 54, 55, 56, 47, 57, 58] (fun i u x => match i with | 11 => u = .int .i64 VE | 0 => u = .pointer (some ⟨g, 0, none⟩) | 1 => u = .pointer (some ⟨g, 0, none⟩) | 2 => u = .pointer (some ⟨g, 0, none⟩) | 3 => u = .pointer (some ⟨g, 11, none⟩) | 4 => u = .agg #[.bool (decide (nx.1 < 0)), .slice B (digs nx.1.natAbs).length d, .int .i64 nx.2] | 5 => u = .pointer (some ⟨pb, 3, none⟩) | 6 => u = .int .i64 (xw - 128) | 7 => ∃ A3 c3, u = .agg #[.bool (decide (tt < 0)), .slice A3 (digs tt.natAbs).length c3, .int .i64 (xw - 128)] ∧ Dg x A3 c3 (digs tt.natAbs) | 8 => ∃ A3 c3, u = .tuple #[.agg #[.bool (decide (nx2.1 < 0)), .slice A3 (digs nx2.1.natAbs).length c3, .int .i64 nx2.2], .int .i64 VE] ∧ Dg x A3 c3 (digs nx2.1.natAbs) | 9 => ∃ A3 c3, u = .tuple #[.agg #[.bool (decide (nx2.1 < 0)), .slice A3 (digs nx2.1.natAbs).length c3, .int .i64 nx2.2], .int .i64 VE] ∧ Dg x A3 c3 (digs nx2.1.natAbs) | 10 => ∃ A3 c3, u = .agg #[.bool (decide (nx2.1 < 0)), .slice A3 (digs nx2.1.natAbs).length c3, .int .i64 nx2.2] ∧ Dg x A3 c3 (digs nx2.1.natAbs) | _ => True)
            (by kernel_rfl) (by decide) (by decide) (by decide) (by kernel_rfl) (by kernel_rfl) (by kernel_rfl) (by decide) (by kernel_rfl) (by kernel_rfl) (by kernel_rfl) ?_ ?_ ?_
          · intro i u x x' hi hR hb'
            have hi' : i = 11 ∨ i = 0 ∨ i = 1 ∨ i = 2 ∨ i = 3 ∨ i = 4 ∨ i = 5 ∨ i = 6 ∨ i = 7 ∨ i = 8 ∨ i = 9 ∨ i = 10 := by simpa using hi
            rcases hi' with rfl | rfl | rfl | rfl | rfl | rfl | rfl | rfl | rfl | rfl | rfl | rfl
            · exact hR
            · exact hR
            · exact hR
            · exact hR
            · exact hR
            · exact hR
            · exact hR
            · exact hR
            · obtain ⟨A3, c3, e, hd⟩ := hR; exact ⟨A3, c3, e, hd.below hb'⟩
            · obtain ⟨A3, c3, e, hd⟩ := hR; exact ⟨A3, c3, e, hd.below hb'⟩
            · obtain ⟨A3, c3, e, hd⟩ := hR; exact ⟨A3, c3, e, hd.below hb'⟩
            · obtain ⟨A3, c3, e, hd⟩ := hR; exact ⟨A3, c3, e, hd.below hb'⟩
          · intro i av x K hi hF hb' hw hK
            have hi' : i = 11 ∨ i = 0 ∨ i = 1 ∨ i = 2 ∨ i = 3 ∨ i = 4 ∨ i = 5 ∨ i = 6 ∨ i = 7 ∨ i = 8 ∨ i = 9 ∨ i = 10 := by simpa using hi
            rcases hi' with rfl | rfl | rfl | rfl | rfl | rfl | rfl | rfl | rfl | rfl | rfl | rfl
            · simp only [wpOp, gAy, gSy, gZy, Region.wanted, if_true]
              refine Or.inl ?_
              obtain ⟨A3_0, c3_0, e0, hd0⟩ := hw 9 (by kernel_rfl)
              have e0e : av.eval (.tmp 47) = .tuple #[.agg #[.bool (decide (nx2.1 < 0)), .slice A3_0 (digs nx2.1.natAbs).length c3_0, .int .i64 nx2.2], .int .i64 VE] := e0
              have e0g : av.tmps[47]?.getD undef = .tuple #[.agg #[.bool (decide (nx2.1 < 0)), .slice A3_0 (digs nx2.1.natAbs).length c3_0, .int .i64 nx2.2], .int .i64 VE] := by have := e0; simp only [Array.getD_eq_getD_getElem?] at this; exact this
              clear hw hF
              simp only [Oper.wp, execOp]
              try simp only [e0e]
              go_simp
              exact hK _ x (by first | rfl | (simp only [Nat.add_zero]; done) | (congr 1; omega)) (Below.refl _ _)
            · simp only [wpOp, gAy, gZy, Region.wanted, if_true]
              refine Or.inl ?_
              have e0 : av.tmps.getD 0 undef = .pointer (some ⟨g, 0, none⟩) := hF.2.2 0 (by decide)
              have e0e : av.eval (.tmp 0) = .pointer (some ⟨g, 0, none⟩) := e0
              have e0g : av.tmps[0]?.getD undef = .pointer (some ⟨g, 0, none⟩) := by have := e0; simp only [Array.getD_eq_getD_getElem?] at this; exact this
              clear hw hF
              simp only [Oper.wp, execOp]
              try simp only [e0e]
              go_simp
              exact hK _ x (by first | rfl | (simp only [Nat.add_zero]; done) | (congr 1; omega)) (Below.refl _ _)
            · simp only [wpOp, gAy, gSy, gZy, Region.wanted, if_true]
              refine Or.inl ?_
              have e0 : av.tmps.getD 0 undef = .pointer (some ⟨g, 0, none⟩) := hF.2.2 0 (by decide)
              have e0e : av.eval (.tmp 0) = .pointer (some ⟨g, 0, none⟩) := e0
              have e0g : av.tmps[0]?.getD undef = .pointer (some ⟨g, 0, none⟩) := by have := e0; simp only [Array.getD_eq_getD_getElem?] at this; exact this
              clear hw hF
              simp only [Oper.wp, execOp]
              try simp only [e0e]
              go_simp
              exact hK _ x (by first | rfl | (simp only [Nat.add_zero]; done) | (congr 1; omega)) (Below.refl _ _)
            · simp only [wpOp, gAy, gSy, gZy, Region.wanted, if_true]
              refine Or.inl ?_
              have e0 : av.tmps.getD 49 undef = .pointer (some ⟨g, 0, none⟩) := hw 1 (by kernel_rfl)
              have e0e : av.eval (.tmp 49) = .pointer (some ⟨g, 0, none⟩) := e0
              have e0g : av.tmps[49]?.getD undef = .pointer (some ⟨g, 0, none⟩) := by have := e0; simp only [Array.getD_eq_getD_getElem?] at this; exact this
              clear hw hF
              simp only [Oper.wp, execOp]
              try simp only [e0e]
              go_simp
              exact hK _ x (by first | rfl | (simp only [Nat.add_zero]; done) | (congr 1; omega)) (Below.refl _ _)
            · simp only [wpOp, gAy, gSy, gZy, Region.wanted, if_true]
              refine Or.inl ?_
              have e0 : av.tmps.getD 50 undef = .pointer (some ⟨g, 0, none⟩) := hw 2 (by kernel_rfl)
              have e0e : av.eval (.tmp 50) = .pointer (some ⟨g, 0, none⟩) := e0
              have e0g : av.tmps[50]?.getD undef = .pointer (some ⟨g, 0, none⟩) := by have := e0; simp only [Array.getD_eq_getD_getElem?] at this; exact this
              clear hw hF
              simp only [Oper.wp, execOp]
              try simp only [e0e]
              go_simp
              exact hK _ x (by first | rfl | (simp only [Nat.add_zero]; done) | (congr 1; omega)) (Below.refl _ _)
            · simp only [wpOp, gAy, gSy, gZy, Region.wanted, if_true]
              refine Or.inl ?_
              have e0 : av.tmps.getD 51 undef = .pointer (some ⟨g, 11, none⟩) := hw 3 (by kernel_rfl)
              have e0e : av.eval (.tmp 51) = .pointer (some ⟨g, 11, none⟩) := e0
              have e0g : av.tmps[51]?.getD undef = .pointer (some ⟨g, 11, none⟩) := by have := e0; simp only [Array.getD_eq_getD_getElem?] at this; exact this
              have f0 := row_c (cells_of L10.out hb') (i := 11) rfl
              have f1 := row_c (cells_of L10.out hb') (i := 12) rfl
              have f2 := row_c (cells_of L10.out hb') (i := 13) rfl
              clear hw hF
              simp only [Oper.wp, execOp]
              try simp only [e0e]
              go_simp
              exact hK _ x (by first | rfl | (simp only [Nat.add_zero]; done) | (congr 1; omega)) (Below.refl _ _)
            · simp only [wpOp, gAy, gSy, gZy, Region.wanted, if_true]
              refine Or.inl ?_
              have e0 : av.tmps.getD 2 undef = .pointer (some ⟨pb, 0, none⟩) := hF.2.2 2 (by decide)
              have e0e : av.eval (.tmp 2) = .pointer (some ⟨pb, 0, none⟩) := e0
              have e0g : av.tmps[2]?.getD undef = .pointer (some ⟨pb, 0, none⟩) := by have := e0; simp only [Array.getD_eq_getD_getElem?] at this; exact this
              clear hw hF
              simp only [Oper.wp, execOp]
              try simp only [e0e]
              go_simp
              exact hK _ x (by first | rfl | (simp only [Nat.add_zero]; done) | (congr 1; omega)) (Below.refl _ _)
            · simp only [wpOp, gAy, gSy, gZy, Region.wanted, if_true]
              refine Or.inl ?_
              have e0 : av.tmps.getD 53 undef = .pointer (some ⟨pb, 3, none⟩) := hw 5 (by kernel_rfl)
              have e0e : av.eval (.tmp 53) = .pointer (some ⟨pb, 3, none⟩) := e0
              have e0g : av.tmps[53]?.getD undef = .pointer (some ⟨pb, 3, none⟩) := by have := e0; simp only [Array.getD_eq_getD_getElem?] at this; exact this
              have f3 := row_c (cells_of P10.out hb') (i := 3) rfl
              clear hw hF
              simp only [Oper.wp, execOp]
              try simp only [e0e]
              go_simp
              exact hK _ x (by first | rfl | (simp only [Nat.add_zero]; done) | (congr 1; omega)) (Below.refl _ _)
            · simp only [wpOp, gAy, gSy, gZy, Region.wanted, if_true]
              refine Or.inl ?_
              have e0 : av.tmps.getD 54 undef = .int .i64 (xw - 128) := hw 6 (by kernel_rfl)
              have e0e : av.eval (.tmp 54) = .int .i64 (xw - 128) := e0
              have e0g : av.tmps[54]?.getD undef = .int .i64 (xw - 128) := by have := e0; simp only [Array.getD_eq_getD_getElem?] at this; exact this
              clear hw hF
              simp only [Oper.wp, execOp]
              try simp only [e0e]
              go_simp
              refine (half_u (xw - 128) tt x (t32_below T10.out hb') (by have := B1.out; omega) (by have := B1.out; omega) HTT.out).mono ?_
              rintro e y ⟨A3, c3, rfl, hd, hbb⟩
              exact hK _ y ⟨A3, c3, rfl, hd⟩ hbb
            · simp only [wpOp, gAy, gSy, gZy, Region.wanted, if_true]
              refine Or.inl ?_
              have e0 : av.tmps.getD 52 undef = .agg #[.bool (decide (nx.1 < 0)), .slice B (digs nx.1.natAbs).length d, .int .i64 nx.2] := hw 4 (by kernel_rfl)
              have e0e : av.eval (.tmp 52) = .agg #[.bool (decide (nx.1 < 0)), .slice B (digs nx.1.natAbs).length d, .int .i64 nx.2] := e0
              have e0g : av.tmps[52]?.getD undef = .agg #[.bool (decide (nx.1 < 0)), .slice B (digs nx.1.natAbs).length d, .int .i64 nx.2] := by have := e0; simp only [Array.getD_eq_getD_getElem?] at this; exact this
              obtain ⟨A3_1, c3_1, e1, hd1⟩ := hw 7 (by kernel_rfl)
              have e1e : av.eval (.tmp 55) = .agg #[.bool (decide (tt < 0)), .slice A3_1 (digs tt.natAbs).length c3_1, .int .i64 (xw - 128)] := e1
              have e1g : av.tmps[55]?.getD undef = .agg #[.bool (decide (tt < 0)), .slice A3_1 (digs tt.natAbs).length c3_1, .int .i64 (xw - 128)] := by have := e1; simp only [Array.getD_eq_getD_getElem?] at this; exact this
              clear hw hF
              simp only [Oper.wp, execOp]
              try simp only [e0e, e1e]
              go_simp
              refine (tadd (A10.out.below hb') hd1 HR.out.2 LTT.out HR.out.1 RTT.out (t32_below T10.out hb') HIS.out HTOT.out).mono ?_
              rintro e y ⟨A3, c3, rfl, hd, hbb⟩
              exact hK _ y ⟨A3, c3, rfl, hd⟩ hbb
            · simp only [wpOp, gAy, gSy, gZy, Region.wanted, if_true]
              refine Or.inl ?_
              obtain ⟨A3_0, c3_0, e0, hd0⟩ := hw 8 (by kernel_rfl)
              have e0e : av.eval (.tmp 56) = .tuple #[.agg #[.bool (decide (nx2.1 < 0)), .slice A3_0 (digs nx2.1.natAbs).length c3_0, .int .i64 nx2.2], .int .i64 VE] := e0
              have e0g : av.tmps[56]?.getD undef = .tuple #[.agg #[.bool (decide (nx2.1 < 0)), .slice A3_0 (digs nx2.1.natAbs).length c3_0, .int .i64 nx2.2], .int .i64 VE] := by have := e0; simp only [Array.getD_eq_getD_getElem?] at this; exact this
              clear hw hF
              simp only [Oper.wp, execOp]
              try simp only [e0e]
              go_simp
              exact hK _ x ⟨_, _, rfl, hd0⟩ (Below.refl _ _)
            · simp only [wpOp, gAy, gSy, gZy, Region.wanted, if_true]
              refine Or.inl ?_
              obtain ⟨A3_0, c3_0, e0, hd0⟩ := hw 9 (by kernel_rfl)
              have e0e : av.eval (.tmp 47) = .tuple #[.agg #[.bool (decide (nx2.1 < 0)), .slice A3_0 (digs nx2.1.natAbs).length c3_0, .int .i64 nx2.2], .int .i64 VE] := e0
              have e0g : av.tmps[47]?.getD undef = .tuple #[.agg #[.bool (decide (nx2.1 < 0)), .slice A3_0 (digs nx2.1.natAbs).length c3_0, .int .i64 nx2.2], .int .i64 VE] := by have := e0; simp only [Array.getD_eq_getD_getElem?] at this; exact this
              clear hw hF
              simp only [Oper.wp, execOp]
              try simp only [e0e]
              go_simp
              exact hK _ x ⟨_, _, rfl, hd0⟩ (Below.refl _ _)
          · intro av x hF0 hb' hR
            have hF : Fr6 [58, 48, 49, 50, 51, 52, 53, 54, 55, 56, 47, 57] _ av := hF0
            have e0 : av.tmps.getD 48 undef = .pointer (some ⟨g, 0, none⟩) := hR 0 (by decide)
            have e1 : av.tmps.getD 49 undef = .pointer (some ⟨g, 0, none⟩) := hR 1 (by decide)
            have e2 : av.tmps.getD 50 undef = .pointer (some ⟨g, 0, none⟩) := hR 2 (by decide)
            have e3 : av.tmps.getD 51 undef = .pointer (some ⟨g, 11, none⟩) := hR 3 (by decide)
            have e4 : av.tmps.getD 52 undef = .agg #[.bool (decide (nx.1 < 0)), .slice B (digs nx.1.natAbs).length d, .int .i64 nx.2] := hR 4 (by decide)
            have e5 : av.tmps.getD 53 undef = .pointer (some ⟨pb, 3, none⟩) := hR 5 (by decide)
            have e6 : av.tmps.getD 54 undef = .int .i64 (xw - 128) := hR 6 (by decide)
            obtain ⟨A3_7, c3_7, e7, hd7⟩ := hR 7 (by decide)
            replace e7 : av.tmps.getD 55 undef = .agg #[.bool (decide (tt < 0)), .slice A3_7 (digs tt.natAbs).length c3_7, .int .i64 (xw - 128)] := e7
            obtain ⟨A3_8, c3_8, e8, hd8⟩ := hR 8 (by decide)
            replace e8 : av.tmps.getD 56 undef = .tuple #[.agg #[.bool (decide (nx2.1 < 0)), .slice A3_8 (digs nx2.1.natAbs).length c3_8, .int .i64 nx2.2], .int .i64 VE] := e8
            obtain ⟨A3_9, c3_9, e9, hd9⟩ := hR 9 (by decide)
            replace e9 : av.tmps.getD 47 undef = .tuple #[.agg #[.bool (decide (nx2.1 < 0)), .slice A3_9 (digs nx2.1.natAbs).length c3_9, .int .i64 nx2.2], .int .i64 VE] := e9
            obtain ⟨A3_10, c3_10, e10, hd10⟩ := hR 10 (by decide)
            replace e10 : av.tmps.getD 57 undef = .agg #[.bool (decide (nx2.1 < 0)), .slice A3_10 (digs nx2.1.natAbs).length c3_10, .int .i64 nx2.2] := e10
            refine ⟨fun f => ?_, fun hx f => ?_⟩
            · rw [hF.fold (by kernel_rfl)]
              simp only [List.foldl_cons, List.foldl_nil, e0, e1, e2, e3, e4, e5, e6, e7, e8, e9, e10]
              generalize av.tmps.getD 58 undef = vx at *
              simp only [Act.put, List.setIfInBounds_toArray, List.set_cons_zero, List.set_cons_succ]
              clear e0 e1 e2 e3 e4 e5 e6 e7 e8 e9 e10 hR hF hF0
              change wpAny _ _ _ _ (f + 4) _ _ _
              have LX := qH (show LB x g t [.int .i64 F, .int .i64 O, .bool (decide (a.1 < 0)), .slice A (digs a.1.natAbs).length c, .int .i64 a.2, .int .i64 W, .int .i64 Q, .int .i64 D, .slice (some ⟨g9, 0, none⟩) (ps.length + 1) cap9, .bool (decide (nx.1 < 0)), .slice B (digs nx.1.natAbs).length d, .int .i64 nx.2] from cells_of L10.out hb')
              have VX := qH (V10.out.gk ⟨grow_below hb', Kept.below hb'⟩ L10.out)
              have ZX := qH (Z10.out.trans (Gz.below hb'))
              have DX := qH hd10
              clear hb' hd10
              have p11 := row_c (i := 11) LX.out rfl
              have p12 := row_c (i := 12) LX.out rfl
              have p13 := row_c (i := 13) LX.out rfl
              have q11 := frozen_of_row _ _ 11 _ _ LX.out
              have q12 := frozen_of_row _ _ 12 _ _ LX.out
              have q13 := frozen_of_row _ _ 13 _ _ LX.out
              refine wpAny_go2 (fuel := f + 3) (i := 11) (j := 12) (by kernel_rfl) ?_ ?_
              · simp only [wpOp, gAy, gSy, gZy, Region.wanted, if_true]
                refine Or.inl ?_
                simp only [Oper.wp, execOp]
                go_simp
                refine wpAny_go1 (fuel := f + 2) (i := 12) (by kernel_rfl) ?_
                simp only [wpOp, gAy, gSy, gZy, Region.wanted, if_true]
                refine Or.inl ?_
                simp only [Oper.wp, execOp]
                go_simp
                refine wpAny_go1 (fuel := f + 1) (i := 13) (by kernel_rfl) ?_
                simp only [wpOp, gAy, gSy, gZy, Region.wanted, if_true]
                refine Or.inl ?_
                simp only [Oper.wp, execOp]
                go_simp
                refine wpAny_go1 (fuel := f + 0) (i := 14) (by kernel_rfl) ?_
                simp only [wpOp, gAy, gSy, gZy, Region.wanted, if_true]
                refine Or.inl ?_
                simp only [Oper.wp, execOp]
                go_simp
                refine wpAny_end (by kernel_rfl) ?_
                obtain ⟨w12, hW⟩ : ∃ V : World, ((x.setCell ⟨g, 11, none⟩ (.bool (decide (nx2.1 < 0)))).setCell ⟨g, 12, none⟩ (.slice A3_10 (digs nx2.1.natAbs).length c3_10)).setCell ⟨g, 13, none⟩ (.int .i64 nx2.2) = V := ⟨_, rfl⟩
                rw [hW]
                have hO : Only g x w12 := by rw [← hW]; exact (((Only.refl g x).setCell 11 _).setCell 12 _).setCell 13 _
                have hk12 := hO.kept LX.out (noint_rs NZ10.out)
                have L12 := qH (show LB w12 g t [.int .i64 F, .int .i64 O, .bool (decide (a.1 < 0)), .slice A (digs a.1.natAbs).length c, .int .i64 a.2, .int .i64 W, .int .i64 Q, .int .i64 D, .slice (some ⟨g9, 0, none⟩) (ps.length + 1) cap9, .bool (decide (nx2.1 < 0)), .slice A3_10 (digs nx2.1.natAbs).length c3_10, .int .i64 nx2.2] by rw [← hW]; exact ((LX.out.setr 9 _).setr 10 _).setr 11 _)
                have gk12 : x.grownBy w12 (some g) ∧ Kept x w12 := ⟨by rw [← hW]; exact grow_trans (grow_trans (grow_set _ _ _ _) (grow_set _ _ _ _)) (grow_set _ _ _ _), hk12⟩
                have V12 := qH (VX.out.gk gk12 LX.out)
                have D12 := qH (DX.out.kept hk12)
                have Z12 := qH (ZX.out.trans (Gz.grown gk12.1 gk12.2))
                clear hW hO hk12 gk12 p11 p12 p13 q11 q12 q13
                go_wp2
                go_end0
                refine ⟨rfl, _, _, _, L12.out, V12.out, D12.out, Z12.out⟩
              · simp only [wpOp, gAy, gSy, gZy, Region.wanted, if_true]
                refine Or.inl ?_
                simp only [Oper.wp, execOp]
                go_simp
                refine wpAny_go2 (fuel := f + 2) (i := 11) (j := 13) (by kernel_rfl) ?_ ?_
                · simp only [wpOp, gAy, gSy, gZy, Region.wanted, if_true]
                  refine Or.inl ?_
                  simp only [Oper.wp, execOp]
                  go_simp
                  refine wpAny_go1 (fuel := f + 1) (i := 13) (by kernel_rfl) ?_
                  simp only [wpOp, gAy, gSy, gZy, Region.wanted, if_true]
                  refine Or.inl ?_
                  simp only [Oper.wp, execOp]
                  go_simp
                  refine wpAny_go1 (fuel := f + 0) (i := 14) (by kernel_rfl) ?_
                  simp only [wpOp, gAy, gSy, gZy, Region.wanted, if_true]
                  refine Or.inl ?_
                  simp only [Oper.wp, execOp]
                  go_simp
                  refine wpAny_end (by kernel_rfl) ?_
                  obtain ⟨w12, hW⟩ : ∃ V : World, ((x.setCell ⟨g, 11, none⟩ (.bool (decide (nx2.1 < 0)))).setCell ⟨g, 12, none⟩ (.slice A3_10 (digs nx2.1.natAbs).length c3_10)).setCell ⟨g, 13, none⟩ (.int .i64 nx2.2) = V := ⟨_, rfl⟩
                  rw [hW]
                  have hO : Only g x w12 := by rw [← hW]; exact (((Only.refl g x).setCell 11 _).setCell 12 _).setCell 13 _
                  have hk12 := hO.kept LX.out (noint_rs NZ10.out)
                  have L12 := qH (show LB w12 g t [.int .i64 F, .int .i64 O, .bool (decide (a.1 < 0)), .slice A (digs a.1.natAbs).length c, .int .i64 a.2, .int .i64 W, .int .i64 Q, .int .i64 D, .slice (some ⟨g9, 0, none⟩) (ps.length + 1) cap9, .bool (decide (nx2.1 < 0)), .slice A3_10 (digs nx2.1.natAbs).length c3_10, .int .i64 nx2.2] by rw [← hW]; exact ((LX.out.setr 9 _).setr 10 _).setr 11 _)
                  have gk12 : x.grownBy w12 (some g) ∧ Kept x w12 := ⟨by rw [← hW]; exact grow_trans (grow_trans (grow_set _ _ _ _) (grow_set _ _ _ _)) (grow_set _ _ _ _), hk12⟩
                  have V12 := qH (VX.out.gk gk12 LX.out)
                  have D12 := qH (DX.out.kept hk12)
                  have Z12 := qH (ZX.out.trans (Gz.grown gk12.1 gk12.2))
                  clear hW hO hk12 gk12 p11 p12 p13 q11 q12 q13
                  go_wp2
                  go_end0
                  refine ⟨rfl, _, _, _, L12.out, V12.out, D12.out, Z12.out⟩
                · simp only [wpOp, gAy, gSy, gZy, Region.wanted, if_true]
                  refine Or.inl ?_
                  simp only [Oper.wp, execOp]
                  go_simp
                  refine wpAny_go2 (fuel := f + 1) (i := 11) (j := 14) (by kernel_rfl) ?_ ?_
                  · simp only [wpOp, gAy, gSy, gZy, Region.wanted, if_true]
                    refine Or.inl ?_
                    simp only [Oper.wp, execOp]
                    go_simp
                    refine wpAny_go1 (fuel := f + 0) (i := 14) (by kernel_rfl) ?_
                    simp only [wpOp, gAy, gSy, gZy, Region.wanted, if_true]
                    refine Or.inl ?_
                    simp only [Oper.wp, execOp]
                    go_simp
                    refine wpAny_end (by kernel_rfl) ?_
                    obtain ⟨w12, hW⟩ : ∃ V : World, ((x.setCell ⟨g, 11, none⟩ (.bool (decide (nx2.1 < 0)))).setCell ⟨g, 12, none⟩ (.slice A3_10 (digs nx2.1.natAbs).length c3_10)).setCell ⟨g, 13, none⟩ (.int .i64 nx2.2) = V := ⟨_, rfl⟩
                    rw [hW]
                    have hO : Only g x w12 := by rw [← hW]; exact (((Only.refl g x).setCell 11 _).setCell 12 _).setCell 13 _
                    have hk12 := hO.kept LX.out (noint_rs NZ10.out)
                    have L12 := qH (show LB w12 g t [.int .i64 F, .int .i64 O, .bool (decide (a.1 < 0)), .slice A (digs a.1.natAbs).length c, .int .i64 a.2, .int .i64 W, .int .i64 Q, .int .i64 D, .slice (some ⟨g9, 0, none⟩) (ps.length + 1) cap9, .bool (decide (nx2.1 < 0)), .slice A3_10 (digs nx2.1.natAbs).length c3_10, .int .i64 nx2.2] by rw [← hW]; exact ((LX.out.setr 9 _).setr 10 _).setr 11 _)
                    have gk12 : x.grownBy w12 (some g) ∧ Kept x w12 := ⟨by rw [← hW]; exact grow_trans (grow_trans (grow_set _ _ _ _) (grow_set _ _ _ _)) (grow_set _ _ _ _), hk12⟩
                    have V12 := qH (VX.out.gk gk12 LX.out)
                    have D12 := qH (DX.out.kept hk12)
                    have Z12 := qH (ZX.out.trans (Gz.grown gk12.1 gk12.2))
                    clear hW hO hk12 gk12 p11 p12 p13 q11 q12 q13
                    go_wp2
                    go_end0
                    refine ⟨rfl, _, _, _, L12.out, V12.out, D12.out, Z12.out⟩
                  · simp only [wpOp, gAy, gSy, gZy, Region.wanted, if_true]
                    refine Or.inl ?_
                    simp only [Oper.wp, execOp]
                    go_simp
                    refine wpAny_go1 (fuel := f + 0) (i := 11) (by kernel_rfl) ?_
                    simp only [wpOp, gAy, gSy, gZy, Region.wanted, if_true]
                    refine Or.inl ?_
                    simp only [Oper.wp, execOp]
                    go_simp
                    refine wpAny_end (by kernel_rfl) ?_
                    obtain ⟨w12, hW⟩ : ∃ V : World, ((x.setCell ⟨g, 11, none⟩ (.bool (decide (nx2.1 < 0)))).setCell ⟨g, 12, none⟩ (.slice A3_10 (digs nx2.1.natAbs).length c3_10)).setCell ⟨g, 13, none⟩ (.int .i64 nx2.2) = V := ⟨_, rfl⟩
                    rw [hW]
                    have hO : Only g x w12 := by rw [← hW]; exact (((Only.refl g x).setCell 11 _).setCell 12 _).setCell 13 _
                    have hk12 := hO.kept LX.out (noint_rs NZ10.out)
                    have L12 := qH (show LB w12 g t [.int .i64 F, .int .i64 O, .bool (decide (a.1 < 0)), .slice A (digs a.1.natAbs).length c, .int .i64 a.2, .int .i64 W, .int .i64 Q, .int .i64 D, .slice (some ⟨g9, 0, none⟩) (ps.length + 1) cap9, .bool (decide (nx2.1 < 0)), .slice A3_10 (digs nx2.1.natAbs).length c3_10, .int .i64 nx2.2] by rw [← hW]; exact ((LX.out.setr 9 _).setr 10 _).setr 11 _)
                    have gk12 : x.grownBy w12 (some g) ∧ Kept x w12 := ⟨by rw [← hW]; exact grow_trans (grow_trans (grow_set _ _ _ _) (grow_set _ _ _ _)) (grow_set _ _ _ _), hk12⟩
                    have V12 := qH (VX.out.gk gk12 LX.out)
                    have D12 := qH (DX.out.kept hk12)
                    have Z12 := qH (ZX.out.trans (Gz.grown gk12.1 gk12.2))
                    clear hW hO hk12 gk12 p11 p12 p13 q11 q12 q13
                    go_wp2
                    go_end0
                    refine ⟨rfl, _, _, _, L12.out, V12.out, D12.out, Z12.out⟩
            · have e11 : av.tmps.getD 58 undef = .int .i64 VE := hx
              rw [hF.fold (by kernel_rfl)]
              simp only [List.foldl_cons, List.foldl_nil, e0, e1, e2, e3, e4, e5, e6, e7, e8, e9, e10, e11]
              simp only [Act.put, List.setIfInBounds_toArray, List.set_cons_zero, List.set_cons_succ]
              clear e0 e1 e2 e3 e4 e5 e6 e7 e8 e9 e10 e11 hR hF hF0 hx
              change wpAny _ _ _ _ (f + 3) _ _ _
              have LX := qH (show LB x g t [.int .i64 F, .int .i64 O, .bool (decide (a.1 < 0)), .slice A (digs a.1.natAbs).length c, .int .i64 a.2, .int .i64 W, .int .i64 Q, .int .i64 D, .slice (some ⟨g9, 0, none⟩) (ps.length + 1) cap9, .bool (decide (nx.1 < 0)), .slice B (digs nx.1.natAbs).length d, .int .i64 nx.2] from cells_of L10.out hb')
              have VX := qH (V10.out.gk ⟨grow_below hb', Kept.below hb'⟩ L10.out)
              have ZX := qH (Z10.out.trans (Gz.below hb'))
              have DX := qH hd10
              clear hb' hd10
              have p11 := row_c (i := 11) LX.out rfl
              have p12 := row_c (i := 12) LX.out rfl
              have p13 := row_c (i := 13) LX.out rfl
              have q11 := frozen_of_row _ _ 11 _ _ LX.out
              have q12 := frozen_of_row _ _ 12 _ _ LX.out
              have q13 := frozen_of_row _ _ 13 _ _ LX.out
              refine wpAny_go1 (fuel := f + 2) (i := 12) (by kernel_rfl) ?_
              simp only [wpOp, gAy, gSy, gZy, Region.wanted, if_true]
              refine Or.inl ?_
              simp only [Oper.wp, execOp]
              go_simp
              refine wpAny_go1 (fuel := f + 1) (i := 13) (by kernel_rfl) ?_
              simp only [wpOp, gAy, gSy, gZy, Region.wanted, if_true]
              refine Or.inl ?_
              simp only [Oper.wp, execOp]
              go_simp
              refine wpAny_go1 (fuel := f + 0) (i := 14) (by kernel_rfl) ?_
              simp only [wpOp, gAy, gSy, gZy, Region.wanted, if_true]
              refine Or.inl ?_
              simp only [Oper.wp, execOp]
              go_simp
              refine wpAny_end (by kernel_rfl) ?_
              obtain ⟨w12, hW⟩ : ∃ V : World, ((x.setCell ⟨g, 11, none⟩ (.bool (decide (nx2.1 < 0)))).setCell ⟨g, 12, none⟩ (.slice A3_10 (digs nx2.1.natAbs).length c3_10)).setCell ⟨g, 13, none⟩ (.int .i64 nx2.2) = V := ⟨_, rfl⟩
              rw [hW]
              have hO : Only g x w12 := by rw [← hW]; exact (((Only.refl g x).setCell 11 _).setCell 12 _).setCell 13 _
              have hk12 := hO.kept LX.out (noint_rs NZ10.out)
              have L12 := qH (show LB w12 g t [.int .i64 F, .int .i64 O, .bool (decide (a.1 < 0)), .slice A (digs a.1.natAbs).length c, .int .i64 a.2, .int .i64 W, .int .i64 Q, .int .i64 D, .slice (some ⟨g9, 0, none⟩) (ps.length + 1) cap9, .bool (decide (nx2.1 < 0)), .slice A3_10 (digs nx2.1.natAbs).length c3_10, .int .i64 nx2.2] by rw [← hW]; exact ((LX.out.setr 9 _).setr 10 _).setr 11 _)
              have gk12 : x.grownBy w12 (some g) ∧ Kept x w12 := ⟨by rw [← hW]; exact grow_trans (grow_trans (grow_set _ _ _ _) (grow_set _ _ _ _)) (grow_set _ _ _ _), hk12⟩
              have V12 := qH (VX.out.gk gk12 LX.out)
              have D12 := qH (DX.out.kept hk12)
              have Z12 := qH (ZX.out.trans (Gz.grown gk12.1 gk12.2))
              clear hW hO hk12 gk12 p11 p12 p13 q11 q12 q13
              go_wp2
              go_end0
              refine ⟨rfl, _, _, _, L12.out, V12.out, D12.out, Z12.out⟩
structure TbZ where
  F : Int
  O : Int
  Q : Int
  D : Int
  W : Int
  a : Int × Int
  ps : List PdZ
def TbZ.enc (T : TbZ) : List UInt8 × Int := encO T.F T.O (nmOf T.a) T.W T.Q T.D (T.ps.map PdZ.to)
noncomputable def rdP (D : Int) (r : List PdZ × (Int × Int) × List UInt8 × Bool) : List PdZ × (Int × Int) × List UInt8 × Bool :=
  (r.1 ++ [⟨r.2.1, (rdS r.2.2).1 - 128, (rdC (D + 1).toNat (rdN (rdS r.2.2).2).2).1, (rdN (rdS r.2.2).2).1⟩], endq r.2.1.1 r.2.1.2 ((rdS r.2.2).1 - 128), (rdC (D + 1).toNat (rdN (rdS r.2.2).2).2).2)
noncomputable def rdPs (D : Int) : Nat → List PdZ × (Int × Int) × List UInt8 × Bool → List PdZ × (Int × Int) × List UInt8 × Bool
  | 0, r => r
  | n + 1, r => if (rdPs D n r).2.2.2 then rdPs D n r else rdP D (rdPs D n r)
noncomputable def rdT (s : List UInt8 × Bool) : TbZ × Bool :=
  let h := rdH s
  let r := rdPs h.2.2.2.1 h.2.2.2.2.2.1.toNat ([], h.2.2.2.2.2.2.1, h.2.2.2.2.2.2.2)
  (⟨h.1, h.2.1, h.2.2.1, h.2.2.2.1, h.2.2.2.2.1, h.2.2.2.2.2.2.1, r.1⟩, r.2.2.2)
noncomputable def decT (l : List UInt8) : Option TbZ := if (rdT (l, false)).2 = false ∧ outE (rdT (l, false)).1.enc = 0 ∧ outB (rdT (l, false)).1.enc = l then some (rdT (l, false)).1 else none
def SmZ (p : PdZ) : Prop := (digs p.a.1.natAbs).length ≤ 10000 ∧ (digs p.er.1.natAbs).length ≤ 400 ∧ ∀ q, q ∈ p.cs → (digs q.1.natAbs).length ≤ 400
theorem rdC_sm : ∀ (n : Nat) (s : List UInt8 × Bool), (∀ q, q ∈ (rdC n s).1 → (digs q.1.natAbs).length ≤ 400) ∧ (rdC n s).2.1.length ≤ s.1.length
  | 0, s => ⟨fun q hq => by simp [rdC] at hq, Nat.le_refl _⟩
  | n + 1, s => by
    obtain ⟨h1, h2⟩ := rdC_sm n s
    have h3 := rdN_is (rdC n s).2
    refine ⟨fun q hq => ?_, Nat.le_trans h3.2.2 h2⟩
    simp only [rdC, List.mem_append, List.mem_singleton] at hq
    rcases hq with hq | rfl
    · exact h1 q hq
    · exact h3.2.1
def Stz (N : Nat) (r : List PdZ × (Int × Int) × List UInt8 × Bool) : Prop := (∀ p, p ∈ r.1 → SmZ p) ∧ (Rt r.2.1.1 r.2.1.2 ∧ (digs r.2.1.1.natAbs).length ≤ 10000) ∧ r.2.2.1.length ≤ N
theorem Stz.step {N : Nat} {r : List PdZ × (Int × Int) × List UInt8 × Bool} (h : Stz N r) (D : Int) : Stz N (rdP D r) := by
  obtain ⟨h1, h2, h3⟩ := h
  have a1 := rdS_is r.2.2
  have a2 := rdN_is (rdS r.2.2).2
  have a3 := rdC_sm (D + 1).toNat (rdN (rdS r.2.2).2).2
  refine ⟨fun p hp => ?_, endq_rt _ _ _, ?_⟩
  · simp only [rdP, List.mem_append, List.mem_singleton] at hp
    rcases hp with hp | rfl
    · exact h1 p hp
    · exact ⟨h2.2, a2.2.1, a3.1⟩
  · exact Nat.le_trans a3.2 (Nat.le_trans a2.2.2 (Nat.le_trans a1.2.2 h3))
theorem Stz.many {N : Nat} {r : List PdZ × (Int × Int) × List UInt8 × Bool} (h : Stz N r) (D : Int) : ∀ n, Stz N (rdPs D n r)
  | 0 => h
  | n + 1 => by
    unfold rdPs
    split
    · exact h.many D n
    · exact (h.many D n).step D
theorem rdPs_len (D : Int) (r : List PdZ × (Int × Int) × List UInt8 × Bool) : ∀ n, (rdPs D n r).1.length ≤ r.1.length + n
  | 0 => Nat.le_refl _
  | n + 1 => by
    have := rdPs_len D r n
    unfold rdPs
    split
    · omega
    · unfold rdP; simp; omega
theorem Pw.ps {w : World} {N : Nat} {P : Option Addr} {n k : Nat} {ps : List PdZ} (h : Pw w N (.slice P n k) ps) : n = ps.length ∧ PsL w P (ps.map PdZ.to) := by
  obtain ⟨hn, cs, hown, hcs⟩ := h
  rcases hown.2 with ⟨h1, h2⟩ | ⟨g, cap, cur, h1, hB, hh, hc, _, _, _⟩
  · injection h1 with e1 e2 e3
    exact ⟨by omega, fun h0 => absurd (by rw [List.length_map]; exact h2) h0⟩
  · have h1c := h1
    injection h1 with e1 e2 e3
    refine ⟨e2, fun _ => ⟨g, 0, e1, heap_lt hh, fun i p hp => ?_⟩⟩
    rw [List.getElem?_map] at hp
    cases hz : ps[i]? with
    | none => rw [hz] at hp; cases hp
    | some z =>
      rw [hz] at hp
      obtain rfl : z.to = p := by simpa using hp
      obtain ⟨A, c, P2, k2, B, d, c0, c1, c2, c3, c4, c5, c6, c7, ha, hnr, hb⟩ := hcs.2.2 i z hz
      have ce : ∀ j u, cs[j]? = some u → w.cell? ⟨g, 0 + j, none⟩ = some u := fun j u hu => by
        have := hown.cells (g := g) (by rw [h1c]; rfl) _ _ hu
        rwa [Addr.add_lit] at this
      refine ⟨A, c, B, d, P2, k2, ce _ _ c0, ce _ _ c1, ce _ _ c2, ce _ _ c3, ?_, ce _ _ c5, ce _ _ c6, ce _ _ c7, ha, hb, hnr.ns⟩
      show _ = some (Value.slice P2 (z.cs.map nmOf).length k2)
      rw [List.length_map]; exact ce _ _ c4
theorem Pw.form {w : World} {N : Nat} {v : Value} {ps : List PdZ} (h : Pw w N v ps) : ∃ A n c, v = .slice A n c := by
  obtain ⟨_, cs, hown, _⟩ := h
  rcases hown.2 with ⟨rfl, _⟩ | ⟨q, cap, cur, rfl, _⟩
  · exact ⟨_, _, _, rfl⟩
  · exact ⟨_, _, _, rfl⟩
theorem smz_of {ps : List PdZ} (h : ∀ p, p ∈ ps → SmZ p) : SmP (ps.map PdZ.to) := fun p hp => by
  obtain ⟨z, hz, rfl⟩ := List.mem_map.1 hp
  obtain ⟨h1, h2, h3⟩ := h z hz
  refine ⟨h1, Nat.le_trans h2 (by omega), fun v hv => ?_⟩
  obtain ⟨q, hq, rfl⟩ := List.mem_map.1 hv
  exact Nat.le_trans (h3 q hq) (by omega)
theorem Pw.gkT {w w' : World} {N g : Nat} {v : Value} {ps : List PdZ} (h : Pw w N v ps) (hg : w.grownBy w' (some g) ∧ Kept w w') {xs : Array Value} {T : TypeId} {fr : Nat × Nat} (hT : w.heap[g]? = some (.cells xs T fr)) (h1 : T ≠ 49) (h2 : T ≠ 26) : Pw w' N v ps :=
  h.gz (Gz.grown (N := N) hg.1 hg.2) hT h2 (fun k hk => hg.1.block k (h.lt hk).2 (fun e => h.neT hT h1 (by rw [hk]; exact e)))
theorem only_grow {b : Nat} {w w' : World} (h : Only b w w') : w.grownBy w' (some b) := ⟨h.os, h.tape, h.output, Nat.le_of_eq h.size.symm, fun k _ hk => h.block k (fun e => hk (by rw [e]))⟩
def DecP (T : Option TbZ) (e : Ending) (w : World) : Prop := match T with
  | none => e = .returned (.tuple #[.agg #[.int .i64 0, .int .i64 0, .bool false, .slice none 0 0, .int .i64 0, .int .i64 0, .int .i64 0, .int .i64 0, .slice none 0 0], .int .i64 2])
  | some ⟨F, O, Q, D, W, a, ps⟩ => ∃ A c P k, e = .returned (.tuple #[.agg #[.int .i64 F, .int .i64 O, .bool (decide (a.1 < 0)), .slice A (digs a.1.natAbs).length c, .int .i64 a.2, .int .i64 W, .int .i64 Q, .int .i64 D, .slice P ps.length k], .int .i64 0]) ∧ Dg w A c (digs a.1.natAbs) ∧ PsL w P (ps.map PdZ.to)
theorem decode_go (l : List UInt8) (w : World) (hT : T32 w) (hl : l.length ≤ 9223372036854775807) (s0 s1 s2 s3 s4 s5 s6 s7 s8 : List UInt8 × Bool) (t F O Q D W n : Int) (a : Int × Int)
    (e0 : rdS (l, false) = (t, s1)) (e1 : rdS (if t = 84 then s1 else (s1.1, true)) = (F, s2)) (e2 : rdS s2 = (O, s3)) (e3 : rdS s3 = (Q, s4)) (e4 : rdS s4 = (D, s5)) (e5 : rdS s5 = (W, s6)) (e6 : rdS s6 = (n, s7)) (e7 : rdN s7 = (a, s8))
    (T : Option TbZ) (hTT : ∀ ps nx s, rdPs D n.toNat ([], a, s8) = (ps, nx, s) → T = if s.2 = false ∧ outE (encO F O (nmOf a) (W - 128) Q D (ps.map PdZ.to)) = 0 ∧ outB (encO F O (nmOf a) (W - 128) Q D (ps.map PdZ.to)) = l then some ⟨F, O, Q, D, W - 128, a, ps⟩ else none) :
    Calls Tryz.prog 10 #[.string ⟨l.toArray⟩] w fun e w' => DecP T e w' ∧ Below w.heap.size w w' := by
  have HT := qH hT
  have HTT := qH hTT
  have BD := qH (show (0 ≤ D ∧ D ≤ 255) ∧ (0 ≤ n ∧ n ≤ 255) ∧ (Rt a.1 a.2 ∧ (digs a.1.natAbs).length ≤ 400) ∧ s8.1.length ≤ 9223372036854775807 by
    have b1 := rdS_b e0 hl
    have bx : (if t = 84 then s1 else (s1.1, true)).1.length ≤ 9223372036854775807 := by split; exact b1.1; exact b1.1
    have b2 := rdS_b e1 bx
    have b3 := rdS_b e2 b2.1
    have b4 := rdS_b e3 b3.1
    have b5 := rdS_b e4 b4.1
    have b6 := rdS_b e5 b5.1
    have b7 := rdS_b e6 b6.1
    have b8 := rdN_b e7 b7.1
    exact ⟨b5.2, b7.2, b8.2, b8.1⟩)
  have HH := qH (fun (g : Nat) (V : World) (h : LB V g (l, false) [.int .i64 0, .int .i64 0, .bool false, .slice none 0 0, .int .i64 0, .int .i64 0, .int .i64 0, .int .i64 0, .slice none 0 0, .bool false, .slice none 0 0, .int .i64 0]) => head_any g (l, false) s1 s2 s3 s4 s5 s6 s7 s8 t F O Q D W n a V h hl e0 e1 e2 e3 e4 e5 e6 e7)
  have SZ := qH (show ∀ k, Stz 9223372036854775807 (rdPs D k ([], a, s8)) from fun k => Stz.many ⟨fun p hp => by simp at hp, ⟨BD.out.2.2.1.1, Nat.le_trans BD.out.2.2.1.2 (by omega)⟩, BD.out.2.2.2⟩ D k)
  have BL := qH hl
  clear hT hTT hl e0 e1 e2 e3 e4 e5 e6 e7
  obtain ⟨bt, hbt⟩ : ∃ d : ByteArray, ⟨l.toArray⟩ = d := ⟨_, rfl⟩
  have HBT := qH hbt
  rw [hbt]
  clear hbt
  go_enter Tryz.func10, Tryz.ntmps10
  go_wp2_with fail
  obtain ⟨g, hg⟩ : ∃ g, w.heap.size + 1 = g := ⟨_, rfl⟩
  obtain ⟨v1, hW⟩ : ∃ V : World, (w.alloc (.cells #[.int .i64 0, .int .i64 0, .bool false, .slice none 0 0, .int .i64 0, .int .i64 0, .int .i64 0, .int .i64 0, .slice none 0 0] 29)).alloc (.cells #[.string bt, .bool false, .int .i64 0, .int .i64 0, .bool false, .slice none 0 0, .int .i64 0, .int .i64 0, .int .i64 0, .int .i64 0, .slice none 0 0, .bool false, .slice none 0 0, .int .i64 0] 60) = V := ⟨_, rfl⟩
  rw [hW, hg]
  have R1 := qH (show v1.heap[w.heap.size]? = some (.cells #[.int .i64 0, .int .i64 0, .bool false, .slice none 0 0, .int .i64 0, .int .i64 0, .int .i64 0, .int .i64 0, .slice none 0 0] 29 (0, 0)) by rw [← hW, heap_alloc_old _ _ (by simp)]; exact heap_alloc_new _ _)
  have H1 := qH (show LB v1 g (l, false) [.int .i64 0, .int .i64 0, .bool false, .slice none 0 0, .int .i64 0, .int .i64 0, .int .i64 0, .int .i64 0, .slice none 0 0, .bool false, .slice none 0 0, .int .i64 0] by rw [← hW, ← hg]; unfold LB; rw [HBT.out]; have := heap_alloc_new (w.alloc (.cells #[.int .i64 0, .int .i64 0, .bool false, .slice none 0 0, .int .i64 0, .int .i64 0, .int .i64 0, .int .i64 0, .slice none 0 0] 29)) (.cells #[.string bt, .bool false, .int .i64 0, .int .i64 0, .bool false, .slice none 0 0, .int .i64 0, .int .i64 0, .int .i64 0, .int .i64 0, .slice none 0 0, .bool false, .slice none 0 0, .int .i64 0] 60); simpa using this)
  have B1 := qH (show Below w.heap.size w v1 by rw [← hW]; exact ((Below.refl _ _).alloc (by simp <;> omega) _).alloc (by simp <;> omega) _)
  have GG := qH (show w.heap.size < g by omega)
  have NZ := qH (show ∀ u, u ∈ ([.int .i64 0, .int .i64 0, .bool false, .slice none 0 0, .int .i64 0, .int .i64 0, .int .i64 0, .int .i64 0, .slice none 0 0, .bool false, .slice none 0 0, .int .i64 0] : List Value) → ∀ n : Int, u ≠ .int .u32 n by intro u hu n e; subst e; simp at hu)
  clear hW hg
  refine (HH.out g v1 H1.out).mono ?_
  rintro e w2 ⟨A, c, B, d, rfl, hlb, hda, hdb, hgr⟩
  have H2 := qH hlb
  have R2 := qH (grow_row hgr R1.out (Nat.ne_of_lt GG.out))
  have A2 := qH hda
  have D2 := qH hdb
  have B2 := qH ((Gz.grown (N := w.heap.size) hgr (grow_kept hgr H1.out (noint_rs NZ.out))).base B1.out B1.out.size (Nat.le_of_lt GG.out))
  clear hlb hda hdb hgr HH
  go_wp2
  go_loopw [11] (fun i wr => ∃ (j : Nat) (V : Value) (ps : List PdZ) (nx : Int × Int) (s : List UInt8 × Bool) (B2 : Option Addr) (d2 : Nat), j ≤ n.toNat ∧ i = .int .i64 j ∧ Hid (rdPs D j ([], a, s8) = (ps, nx, s)) ∧ Hid (LB wr g s [.int .i64 F, .int .i64 O, .bool (decide (a.1 < 0)), .slice A (digs a.1.natAbs).length c, .int .i64 a.2, .int .i64 (W - 128), .int .i64 Q, .int .i64 D, V, .bool (decide (nx.1 < 0)), .slice B2 (digs nx.1.natAbs).length d2, .int .i64 nx.2]) ∧ Hid (Pw wr w.heap.size V ps) ∧ Hid (Dg wr A c (digs a.1.natAbs)) ∧ Hid (Dg wr B2 d2 (digs nx.1.natAbs)) ∧ Hid (Below w.heap.size w wr) ∧ Hid (wr.heap[w.heap.size]? = some (.cells #[.int .i64 0, .int .i64 0, .bool false, .slice none 0 0, .int .i64 0, .int .i64 0, .int .i64 0, .int .i64 0, .slice none 0 0] 29 (0, 0)))) (fun i _ => n.toNat - (intOf i).toNat)
  case atStart => exact ⟨0, .slice none 0 0, [], a, s8, B, d, Nat.zero_le _, rfl, qH rfl, H2, qH (pw_nil _ _), A2, D2, B2, R2⟩
  case round =>
    obtain ⟨j, V, ps, nx, ⟨ls, ms⟩, B2, d2, hj, rfl, HQ, HL, HP, HA, HDN, HB, HRR⟩ := hrel
    have SS := qH (show Stz 9223372036854775807 (ps, nx, ls, ms) by rw [← HQ.out]; exact SZ.out j)
    have PL := qH (show ps.length ≤ j by have := rdPs_len D ([], a, s8) j; rw [HQ.out] at this; simpa using this)
    have f1 : wr.cell? ⟨g, 1, none⟩ = some (.bool ms) := row_c HL.out (i := 1) rfl
    by_cases hlt : j < n.toNat
    · have hji : ((j : Nat) : Int) < n := by omega
      have HLT := qH hlt
      cases ms
      · have HS := qH (show rdPs D (j + 1) ([], a, s8) = rdP D (ps, nx, ls, false) by unfold rdPs; rw [HQ.out]; rfl)
        go_wp2_with fail
        clear f1
        refine (piece_any g (ls, false) _ _ _ F O (W - 128) Q D _ a nx _ _ _ A B2 c d2 V ps w wr HL.out SS.out.2.2 HP.out HB.out HT.out (Nat.le_of_lt GG.out) HDN.out SS.out.2.1 BD.out.1 (by have := PL.out; have := BD.out.2.1; omega) rfl rfl rfl rfl).mono ?_
        rintro e w3 ⟨V2, B3, d3, rfl, hlb, hpw, hdn, hgz⟩
        have H3 := qH hlb
        have P3 := qH hpw
        have D3 := qH hdn
        have A3 := qH (HA.out.kept hgz.1)
        have B3' := qH (hgz.base HB.out HB.out.size (Nat.le_of_lt GG.out))
        have R3 := qH (hgz.row HRR.out (Nat.ne_of_lt GG.out) (by decide))
        clear hlb hpw hdn hgz
        go_wp2
        go_roundw
        case rel =>
          have hl1 := HLT.out
          have hd1 := BD.out.2.1
          have hw : wrap64 ((j : Int) + 1) = (j : Int) + 1 := IntWalk.wrap64_in _ ⟨by omega, by omega⟩
          exact ⟨j + 1, V2, _, _, _, B3, d3, HLT.out, by rw [hw]; exact congrArg _ (by omega), HS, H3, P3, A3, D3, B3', R3⟩
        case measure =>
          have hl1 := HLT.out
          have hd1 := BD.out.2.1
          have hw : wrap64 ((j : Int) + 1) = (j : Int) + 1 := IntWalk.wrap64_in _ ⟨by omega, by omega⟩
          rw [hw]
          clear hw
          simp [intOf]; omega
      · have HS := qH (show rdPs D (j + 1) ([], a, s8) = (ps, nx, ls, true) by unfold rdPs; rw [HQ.out]; rfl)
        go_wp2
        go_roundw
        case rel =>
          have hl1 := HLT.out
          have hd1 := BD.out.2.1
          have hw : wrap64 ((j : Int) + 1) = (j : Int) + 1 := IntWalk.wrap64_in _ ⟨by omega, by omega⟩
          exact ⟨j + 1, V, ps, nx, (ls, true), B2, d2, HLT.out, by rw [hw]; exact congrArg _ (by omega), HS, HL, HP, HA, HDN, HB, HRR⟩
        case measure =>
          have hl1 := HLT.out
          have hd1 := BD.out.2.1
          have hw : wrap64 ((j : Int) + 1) = (j : Int) + 1 := IntWalk.wrap64_in _ ⟨by omega, by omega⟩
          rw [hw]
          clear hw
          simp [intOf]; omega
    · obtain rfl : j = n.toNat := by omega
      have hji : ¬ ((n.toNat : Nat) : Int) < n := by have := BD.out.2.1; omega
      have HTE := qH (HTT.out ps nx (ls, ms) HQ.out)
      clear hj
      obtain ⟨P, nP, k, rfl⟩ := HP.out.form
      obtain ⟨rfl, hps⟩ := HP.out.ps
      have HPS := qH hps
      clear hps
      cases ms
      · have HEN := qH (fun (V : World) (hb : Below w.heap.size w V) (h : Dg V A c (digs a.1.natAbs)) (hp : PsL V P (ps.map PdZ.to)) => (by have := encode_any (A := A) (P := P) (c := c) (k := k) (F := F) (O := O) (W := W - 128) (Q := Q) (D := D) (a := nmOf a) (ps := ps.map PdZ.to) (w := V) h (Nat.le_trans BD.out.2.2.1.2 (by omega)) (t32_below HT.out hb) hp (smz_of SS.out.1); rw [List.length_map] at this; exact this : Calls Tryz.prog 7 #[.agg #[.int .i64 F, .int .i64 O, .bool (decide (a.1 < 0)), .slice A (digs a.1.natAbs).length c, .int .i64 a.2, .int .i64 (W - 128), .int .i64 Q, .int .i64 D, .slice P ps.length k]] V fun e w' => (∃ t : ByteArray, e = .returned (.tuple #[.string t, .int .i64 (outE (encO F O (nmOf a) (W - 128) Q D (ps.map PdZ.to)))]) ∧ t.data.toList = outB (encO F O (nmOf a) (W - 128) Q D (ps.map PdZ.to))) ∧ Below V.heap.size V w'))
        obtain ⟨E, hE⟩ : ∃ z, outE (encO F O (nmOf a) (W - 128) Q D (ps.map PdZ.to)) = z := ⟨_, rfl⟩
        obtain ⟨L, hL⟩ : ∃ z, outB (encO F O (nmOf a) (W - 128) Q D (ps.map PdZ.to)) = z := ⟨_, rfl⟩
        rw [hE, hL] at HEN HTE
        clear hE hL
        have g2 := row_c (i := 2) HL.out rfl
        have g3 := row_c (i := 3) HL.out rfl
        have g4 := row_c (i := 4) HL.out rfl
        have g5 := row_c (i := 5) HL.out rfl
        have g6 := row_c (i := 6) HL.out rfl
        have g7 := row_c (i := 7) HL.out rfl
        have g8 := row_c (i := 8) HL.out rfl
        have g9 := row_c (i := 9) HL.out rfl
        have g10 := row_c (i := 10) HL.out rfl
        go_wp2_with fail
        clear g2 g3 g4 g5 g6 g7 g8 g9 g10 f1
        refine (HEN.out wr HB.out HA.out HPS.out).mono ?_
        rintro e w5 ⟨⟨t2, rfl, ht2⟩, hb⟩
        have L5 := qH (show LB w5 g (ls, false) [.int .i64 F, .int .i64 O, .bool (decide (a.1 < 0)), .slice A (digs a.1.natAbs).length c, .int .i64 a.2, .int .i64 (W - 128), .int .i64 Q, .int .i64 D, .slice P ps.length k, .bool (decide (nx.1 < 0)), .slice B2 (digs nx.1.natAbs).length d2, .int .i64 nx.2] from cells_of HL.out hb)
        have A5 := qH (HA.out.below hb)
        have W5 := qH (HP.out.gk ⟨grow_below hb, Kept.below hb⟩ HL.out)
        have R5 := co HRR hb
        have B5 := qH (HB.out.trans (hb.mono HB.out.size))
        have HT2 := qH ht2
        clear hb ht2
        by_cases hE0 : E = 0
        · subst hE0
          by_cases hq : L = l
          · obtain rfl : t2 = bt := by rw [← HBT.out]; apply ByteArray.ext; apply Array.toList_inj.1; rw [HT2.out, hq]
            have HTS := qH (show T = some ⟨F, O, Q, D, W - 128, a, ps⟩ by rw [HTE.out, if_pos (by simp [hq])])
            clear hq
            go_upto_region 12 with fail
            have h2 := row_c (i := 2) L5.out rfl
            have h3 := row_c (i := 3) L5.out rfl
            have h4 := row_c (i := 4) L5.out rfl
            have h5 := row_c (i := 5) L5.out rfl
            have h6 := row_c (i := 6) L5.out rfl
            have h7 := row_c (i := 7) L5.out rfl
            have h8 := row_c (i := 8) L5.out rfl
            have h9 := row_c (i := 9) L5.out rfl
            have h10 := row_c (i := 10) L5.out rfl
            obtain ⟨fr0, fr1, fr2, fr3, fr4, fr5, fr6, fr7, fr8, _⟩ := ly9f R5.out
            have zr0 := frozen_of_row _ _ 0 _ _ R5.out
            have zr1 := frozen_of_row _ _ 1 _ _ R5.out
            have zr2 := frozen_of_row _ _ 2 _ _ R5.out
            have zr3 := frozen_of_row _ _ 3 _ _ R5.out
            have zr4 := frozen_of_row _ _ 4 _ _ R5.out
            have zr5 := frozen_of_row _ _ 5 _ _ R5.out
            have zr6 := frozen_of_row _ _ 6 _ _ R5.out
            have zr7 := frozen_of_row _ _ 7 _ _ R5.out
            have zr8 := frozen_of_row _ _ 8 _ _ R5.out
            have xr := heap_lt R5.out
            go_wp2
            clear h2 h3 h4 h5 h6 h7 h8 h9 h10
            obtain ⟨wz, hW⟩ : ∃ V : World, (((((((((w5.setCell ⟨w.heap.size, 0, none⟩ (.int .i64 F)).setCell ⟨w.heap.size, 1, none⟩ (.int .i64 O)).setCell ⟨w.heap.size, 2, none⟩ (.bool (decide (a.1 < 0)))).setCell ⟨w.heap.size, 3, none⟩ (.slice A (digs a.1.natAbs).length c)).setCell ⟨w.heap.size, 4, none⟩ (.int .i64 a.2)).setCell ⟨w.heap.size, 5, none⟩ (.int .i64 (W - 128))).setCell ⟨w.heap.size, 6, none⟩ (.int .i64 Q)).setCell ⟨w.heap.size, 7, none⟩ (.int .i64 D)).setCell ⟨w.heap.size, 8, none⟩ (.slice P ps.length k)) = V := ⟨_, rfl⟩
            rw [hW]
            have hO : Only w.heap.size w5 wz := by rw [← hW]; exact ((((((((((Only.refl w.heap.size w5).setCell 0 _).setCell 1 _).setCell 2 _).setCell 3 _).setCell 4 _).setCell 5 _).setCell 6 _).setCell 7 _).setCell 8 _)
            have hR : wz.heap[w.heap.size]? = some (.cells #[.int .i64 F, .int .i64 O, .bool (decide (a.1 < 0)), .slice A (digs a.1.natAbs).length c, .int .i64 a.2, .int .i64 (W - 128), .int .i64 Q, .int .i64 D, .slice P ps.length k] 29 (0, 0)) := by rw [← hW]; exact (heap_setCell_same _ _ 8 _ _ _ (heap_setCell_same _ _ 7 _ _ _ (heap_setCell_same _ _ 6 _ _ _ (heap_setCell_same _ _ 5 _ _ _ (heap_setCell_same _ _ 4 _ _ _ (heap_setCell_same _ _ 3 _ _ _ (heap_setCell_same _ _ 2 _ _ _ (heap_setCell_same _ _ 1 _ _ _ (heap_setCell_same _ _ 0 _ _ _ R5.out)))))))))
            have HZB := qH (hO.below B5.out (Nat.le_refl _))
            have HK := qH (hO.kept R5.out (noint_of (by intro u hu n e; subst e; simp at hu)))
            have HO := qH hO
            obtain ⟨g0, g1, g2, g3, g4, g5, g6, g7, g8, _⟩ := ly9f hR
            clear hW hO hR xr fr0 zr0 fr1 zr1 fr2 zr2 fr3 zr3 fr4 zr4 fr5 zr5 fr6 zr6 fr7 zr7 fr8 zr8
            refine bodyPost_ret (v := .tuple #[.agg #[.int .i64 F, .int .i64 O, .bool (decide (a.1 < 0)), .slice A (digs a.1.natAbs).length c, .int .i64 a.2, .int .i64 (W - 128), .int .i64 Q, .int .i64 D, .slice P ps.length k], .int .i64 0]) (by simp [results, Tryz.results10, go_sem, g0, g1, g2, g3, g4, g5, g6, g7, g8]) rfl ?_
            rw [HTS.out]
            exact ⟨⟨A, c, P, k, rfl, A5.out.kept HK.out, ((W5.out).gkT ⟨only_grow HO.out, HK.out⟩ R5.out (by decide) (by decide)).ps.2⟩, HZB.out⟩
          · have HTN := qH (show T = none by rw [HTE.out, if_neg (fun h => hq h.2.2)])
            have hnt : ¬ t2 = bt := fun h => hq (by rw [← HT2.out, h, ← HBT.out])
            have hn2 : (t2.toList == bt.toList) = false := beq_eq_false_iff_ne.2 (fun h => hnt (by rw [ByteArray.toList_eq, ByteArray.toList_eq] at h; apply ByteArray.ext; exact Array.toList_inj.1 h))
            clear hq hnt
            go_upto_region 11 with fail
            clear hn2
            obtain ⟨fr0, fr1, fr2, fr3, fr4, fr5, fr6, fr7, fr8, _⟩ := ly9f R5.out
            have zr0 := frozen_of_row _ _ 0 _ _ R5.out
            have zr1 := frozen_of_row _ _ 1 _ _ R5.out
            have zr2 := frozen_of_row _ _ 2 _ _ R5.out
            have zr3 := frozen_of_row _ _ 3 _ _ R5.out
            have zr4 := frozen_of_row _ _ 4 _ _ R5.out
            have zr5 := frozen_of_row _ _ 5 _ _ R5.out
            have zr6 := frozen_of_row _ _ 6 _ _ R5.out
            have zr7 := frozen_of_row _ _ 7 _ _ R5.out
            have zr8 := frozen_of_row _ _ 8 _ _ R5.out
            have xr := heap_lt R5.out
            go_wp2
            obtain ⟨wz, hW⟩ : ∃ V : World, (((((((((w5.setCell ⟨w.heap.size, 0, none⟩ (.int .i64 0)).setCell ⟨w.heap.size, 1, none⟩ (.int .i64 0)).setCell ⟨w.heap.size, 2, none⟩ (.bool false)).setCell ⟨w.heap.size, 3, none⟩ (.slice none 0 0)).setCell ⟨w.heap.size, 4, none⟩ (.int .i64 0)).setCell ⟨w.heap.size, 5, none⟩ (.int .i64 0)).setCell ⟨w.heap.size, 6, none⟩ (.int .i64 0)).setCell ⟨w.heap.size, 7, none⟩ (.int .i64 0)).setCell ⟨w.heap.size, 8, none⟩ (.slice none 0 0)) = V := ⟨_, rfl⟩
            rw [hW]
            have hO : Only w.heap.size w5 wz := by rw [← hW]; exact ((((((((((Only.refl w.heap.size w5).setCell 0 _).setCell 1 _).setCell 2 _).setCell 3 _).setCell 4 _).setCell 5 _).setCell 6 _).setCell 7 _).setCell 8 _)
            have hR : wz.heap[w.heap.size]? = some (.cells #[.int .i64 0, .int .i64 0, .bool false, .slice none 0 0, .int .i64 0, .int .i64 0, .int .i64 0, .int .i64 0, .slice none 0 0] 29 (0, 0)) := by rw [← hW]; exact (heap_setCell_same _ _ 8 _ _ _ (heap_setCell_same _ _ 7 _ _ _ (heap_setCell_same _ _ 6 _ _ _ (heap_setCell_same _ _ 5 _ _ _ (heap_setCell_same _ _ 4 _ _ _ (heap_setCell_same _ _ 3 _ _ _ (heap_setCell_same _ _ 2 _ _ _ (heap_setCell_same _ _ 1 _ _ _ (heap_setCell_same _ _ 0 _ _ _ R5.out)))))))))
            have HZB := qH (hO.below B5.out (Nat.le_refl _))
            have HK := qH (hO.kept R5.out (noint_of (by intro u hu n e; subst e; simp at hu)))
            have HO := qH hO
            obtain ⟨g0, g1, g2, g3, g4, g5, g6, g7, g8, _⟩ := ly9f hR
            clear hW hO hR xr fr0 zr0 fr1 zr1 fr2 zr2 fr3 zr3 fr4 zr4 fr5 zr5 fr6 zr6 fr7 zr7 fr8 zr8
            refine bodyPost_ret (v := .tuple #[.agg #[.int .i64 0, .int .i64 0, .bool false, .slice none 0 0, .int .i64 0, .int .i64 0, .int .i64 0, .int .i64 0, .slice none 0 0], .int .i64 2]) (by simp [results, Tryz.results10, go_sem, g0, g1, g2, g3, g4, g5, g6, g7, g8]) rfl ?_
            rw [HTN.out]
            exact ⟨rfl, HZB.out⟩
        · have HTN := qH (show T = none by rw [HTE.out, if_neg (fun h => hE0 h.2.1)])
          have hn1 : (E != 0) = true := bne_iff_ne.2 hE0
          clear hE0
          go_upto_region 11 with fail
          clear hn1
          obtain ⟨fr0, fr1, fr2, fr3, fr4, fr5, fr6, fr7, fr8, _⟩ := ly9f R5.out
          have zr0 := frozen_of_row _ _ 0 _ _ R5.out
          have zr1 := frozen_of_row _ _ 1 _ _ R5.out
          have zr2 := frozen_of_row _ _ 2 _ _ R5.out
          have zr3 := frozen_of_row _ _ 3 _ _ R5.out
          have zr4 := frozen_of_row _ _ 4 _ _ R5.out
          have zr5 := frozen_of_row _ _ 5 _ _ R5.out
          have zr6 := frozen_of_row _ _ 6 _ _ R5.out
          have zr7 := frozen_of_row _ _ 7 _ _ R5.out
          have zr8 := frozen_of_row _ _ 8 _ _ R5.out
          have xr := heap_lt R5.out
          go_wp2
          obtain ⟨wz, hW⟩ : ∃ V : World, (((((((((w5.setCell ⟨w.heap.size, 0, none⟩ (.int .i64 0)).setCell ⟨w.heap.size, 1, none⟩ (.int .i64 0)).setCell ⟨w.heap.size, 2, none⟩ (.bool false)).setCell ⟨w.heap.size, 3, none⟩ (.slice none 0 0)).setCell ⟨w.heap.size, 4, none⟩ (.int .i64 0)).setCell ⟨w.heap.size, 5, none⟩ (.int .i64 0)).setCell ⟨w.heap.size, 6, none⟩ (.int .i64 0)).setCell ⟨w.heap.size, 7, none⟩ (.int .i64 0)).setCell ⟨w.heap.size, 8, none⟩ (.slice none 0 0)) = V := ⟨_, rfl⟩
          rw [hW]
          have hO : Only w.heap.size w5 wz := by rw [← hW]; exact ((((((((((Only.refl w.heap.size w5).setCell 0 _).setCell 1 _).setCell 2 _).setCell 3 _).setCell 4 _).setCell 5 _).setCell 6 _).setCell 7 _).setCell 8 _)
          have hR : wz.heap[w.heap.size]? = some (.cells #[.int .i64 0, .int .i64 0, .bool false, .slice none 0 0, .int .i64 0, .int .i64 0, .int .i64 0, .int .i64 0, .slice none 0 0] 29 (0, 0)) := by rw [← hW]; exact (heap_setCell_same _ _ 8 _ _ _ (heap_setCell_same _ _ 7 _ _ _ (heap_setCell_same _ _ 6 _ _ _ (heap_setCell_same _ _ 5 _ _ _ (heap_setCell_same _ _ 4 _ _ _ (heap_setCell_same _ _ 3 _ _ _ (heap_setCell_same _ _ 2 _ _ _ (heap_setCell_same _ _ 1 _ _ _ (heap_setCell_same _ _ 0 _ _ _ R5.out)))))))))
          have HZB := qH (hO.below B5.out (Nat.le_refl _))
          have HK := qH (hO.kept R5.out (noint_of (by intro u hu n e; subst e; simp at hu)))
          have HO := qH hO
          obtain ⟨g0, g1, g2, g3, g4, g5, g6, g7, g8, _⟩ := ly9f hR
          clear hW hO hR xr fr0 zr0 fr1 zr1 fr2 zr2 fr3 zr3 fr4 zr4 fr5 zr5 fr6 zr6 fr7 zr7 fr8 zr8
          refine bodyPost_ret (v := .tuple #[.agg #[.int .i64 0, .int .i64 0, .bool false, .slice none 0 0, .int .i64 0, .int .i64 0, .int .i64 0, .int .i64 0, .slice none 0 0], .int .i64 2]) (by simp [results, Tryz.results10, go_sem, g0, g1, g2, g3, g4, g5, g6, g7, g8]) rfl ?_
          rw [HTN.out]
          exact ⟨rfl, HZB.out⟩
      · have HTN := qH (show T = none by rw [HTE.out, if_neg (fun h => by simp at h)])
        go_upto_region 8 with fail
        clear f1
        obtain ⟨fr0, fr1, fr2, fr3, fr4, fr5, fr6, fr7, fr8, _⟩ := ly9f HRR.out
        have zr0 := frozen_of_row _ _ 0 _ _ HRR.out
        have zr1 := frozen_of_row _ _ 1 _ _ HRR.out
        have zr2 := frozen_of_row _ _ 2 _ _ HRR.out
        have zr3 := frozen_of_row _ _ 3 _ _ HRR.out
        have zr4 := frozen_of_row _ _ 4 _ _ HRR.out
        have zr5 := frozen_of_row _ _ 5 _ _ HRR.out
        have zr6 := frozen_of_row _ _ 6 _ _ HRR.out
        have zr7 := frozen_of_row _ _ 7 _ _ HRR.out
        have zr8 := frozen_of_row _ _ 8 _ _ HRR.out
        have xr := heap_lt HRR.out
        go_wp2
        obtain ⟨wz, hW⟩ : ∃ V : World, (((((((((wr.setCell ⟨w.heap.size, 0, none⟩ (.int .i64 0)).setCell ⟨w.heap.size, 1, none⟩ (.int .i64 0)).setCell ⟨w.heap.size, 2, none⟩ (.bool false)).setCell ⟨w.heap.size, 3, none⟩ (.slice none 0 0)).setCell ⟨w.heap.size, 4, none⟩ (.int .i64 0)).setCell ⟨w.heap.size, 5, none⟩ (.int .i64 0)).setCell ⟨w.heap.size, 6, none⟩ (.int .i64 0)).setCell ⟨w.heap.size, 7, none⟩ (.int .i64 0)).setCell ⟨w.heap.size, 8, none⟩ (.slice none 0 0)) = V := ⟨_, rfl⟩
        rw [hW]
        have hO : Only w.heap.size wr wz := by rw [← hW]; exact ((((((((((Only.refl w.heap.size wr).setCell 0 _).setCell 1 _).setCell 2 _).setCell 3 _).setCell 4 _).setCell 5 _).setCell 6 _).setCell 7 _).setCell 8 _)
        have hR : wz.heap[w.heap.size]? = some (.cells #[.int .i64 0, .int .i64 0, .bool false, .slice none 0 0, .int .i64 0, .int .i64 0, .int .i64 0, .int .i64 0, .slice none 0 0] 29 (0, 0)) := by rw [← hW]; exact (heap_setCell_same _ _ 8 _ _ _ (heap_setCell_same _ _ 7 _ _ _ (heap_setCell_same _ _ 6 _ _ _ (heap_setCell_same _ _ 5 _ _ _ (heap_setCell_same _ _ 4 _ _ _ (heap_setCell_same _ _ 3 _ _ _ (heap_setCell_same _ _ 2 _ _ _ (heap_setCell_same _ _ 1 _ _ _ (heap_setCell_same _ _ 0 _ _ _ HRR.out)))))))))
        have HZB := qH (hO.below HB.out (Nat.le_refl _))
        have HK := qH (hO.kept HRR.out (noint_of (by intro u hu n e; subst e; simp at hu)))
        have HO := qH hO
        obtain ⟨g0, g1, g2, g3, g4, g5, g6, g7, g8, _⟩ := ly9f hR
        clear hW hO hR xr fr0 zr0 fr1 zr1 fr2 zr2 fr3 zr3 fr4 zr4 fr5 zr5 fr6 zr6 fr7 zr7 fr8 zr8
        refine bodyPost_ret (v := .tuple #[.agg #[.int .i64 0, .int .i64 0, .bool false, .slice none 0 0, .int .i64 0, .int .i64 0, .int .i64 0, .int .i64 0, .slice none 0 0], .int .i64 2]) (by simp [results, Tryz.results10, go_sem, g0, g1, g2, g3, g4, g5, g6, g7, g8]) rfl ?_
        rw [HTN.out]
        exact ⟨rfl, HZB.out⟩
theorem zb_inj {m n : Int} {r s : List UInt8} (hm : (digs m.natAbs).length ≤ 400) (hn : (digs n.natAbs).length ≤ 400) (h : zb m ++ r = zb n ++ s) : m = n ∧ r = s := by
  obtain ⟨_, a1, a2, a3, a4⟩ := tk_zb m r hm
  obtain ⟨_, b1, b2, b3, b4⟩ := tk_zb n s hn
  rw [h] at a1 a2 a3 a4
  rw [b1] at a2 a4
  rw [b1] at b2 b4 a1
  have e1 : digs m.natAbs = digs n.natAbs := a2.symm.trans b2
  have e2 : m.natAbs = n.natAbs := by rw [← val_digs m.natAbs, e1, val_digs]
  have e3 : decide (m < 0) = decide (n < 0) := a3.symm.trans b3
  have e4 : (m < 0) ↔ (n < 0) := by simpa using e3
  exact ⟨by omega, a4.symm.trans b4⟩
theorem rdN_zb {m x : Int} {r : List UInt8} {b : Bool} (hm : (digs m.natAbs).length ≤ 400) (hr : Rt m x) (hi : inR m x = true) : rdN (zb m ++ zb x ++ r, b) = ((m, x), r, b) := by
  have hk : okN (zb m ++ zb x ++ r) := ⟨(m, x, r), rfl, hm, hr, hi⟩
  unfold rdN
  rw [dif_pos hk]
  have hs := hk.choose_spec
  generalize hk.choose = q at hs ⊢
  obtain ⟨h1, h2, h3, h4⟩ := hs
  have hx : ∀ z : Int, -131072 ≤ z → z ≤ 131072 → (digs z.natAbs).length ≤ 400 := fun z h0 h1 => Nat.le_trans (digs_small (by omega)) (by decide)
  rw [List.append_assoc, List.append_assoc] at h1
  obtain ⟨e1, h1⟩ := zb_inj hm h2 h1
  obtain ⟨e2, h1⟩ := zb_inj (hx x hr.2.1 hr.2.2) (hx _ h3.2.1 h3.2.2) h1
  rw [← e1, ← e2, ← h1]
theorem canon {v : Nm} (hk : ok32 v.2.1) (h : dyR v.1 v.2.1 v.2.2 = true) : nmOf (nmv v, v.2.2) = v ∧ Rt (nmv v) v.2.2 := by
  obtain ⟨s, xs, x⟩ := v
  dsimp only at *
  obtain ⟨m, rfl, rfl, r1⟩ := num_of hk h
  have hv : nmv (decide (m < 0), digs m.natAbs, x) = m := by unfold nmv; rw [val_digs]; exact sg_dzM m
  rw [hv]
  exact ⟨rfl, r1⟩
def Wn (v : Nm) : Prop := ok32 v.2.1 ∧ dyR v.1 v.2.1 v.2.2 = true ∧ v.2.1.length ≤ 400 ∧ dyIn v = true
theorem rdN_nb {v : Nm} (h : Wn v) (r : List UInt8) (b : Bool) : rdN (nbB v ++ r, b) = ((nmv v, v.2.2), r, b) := by
  obtain ⟨hk, hd, hl, hi⟩ := h
  have hc := canon hk hd
  refine rdN_zb ?_ hc.2 hi
  have := congrArg (fun q : Nm => q.2.1) hc.1
  dsimp only [nmOf] at this
  rw [this]; exact hl
theorem bytT_of {v : Nm} (h : Wn v) : bytT v = nbB v := by unfold bytT; rw [if_pos h.2.2.2]
theorem stp_snd (s : List UInt8 × Int) (v : Nm) : (stp s v).2 = 0 ↔ s.2 = 0 ∧ dyIn v = true := by
  unfold stp errT
  dsimp only
  by_cases h : s.2 = 0
  · rw [if_pos h]; simp [h]
  · rw [if_neg h]; simp [h]
theorem stps_snd (cs : List Nm) : ∀ s : List UInt8 × Int, (cs.foldl stp s).2 = 0 ↔ s.2 = 0 ∧ ∀ v, v ∈ cs → dyIn v = true := by
  induction cs with
  | nil => intro s; simp
  | cons v cs ih => intro s; rw [List.foldl_cons, ih, stp_snd]; simp [and_assoc]
theorem stpP_snd (s : List UInt8 × Int) (p : Pd) : (stpP s p).2 = 0 ↔ s.2 = 0 ∧ dyIn p.er = true ∧ ∀ v, v ∈ p.cs → dyIn v = true := by
  unfold stpP
  rw [stps_snd, stp_snd, and_assoc]
theorem stpPs_snd (ps : List Pd) : ∀ s : List UInt8 × Int, (ps.foldl stpP s).2 = 0 ↔ s.2 = 0 ∧ ∀ p, p ∈ ps → dyIn p.er = true ∧ ∀ v, v ∈ p.cs → dyIn v = true := by
  induction ps with
  | nil => intro s; simp
  | cons p ps ih => intro s; rw [List.foldl_cons, ih, stpP_snd]; simp [and_assoc]
def encC (cs : List Nm) : List UInt8 := cs.flatMap nbB
def encP (p : Pd) : List UInt8 := by8 (p.w + 128) :: (nbB p.er ++ encC p.cs)
theorem stps_fst (cs : List Nm) (h : ∀ v, v ∈ cs → Wn v) : ∀ s : List UInt8 × Int, (cs.foldl stp s).1 = s.1 ++ encC cs := by
  induction cs with
  | nil => intro s; simp [encC]
  | cons v cs ih =>
    intro s
    rw [List.foldl_cons, ih (fun u hu => h u (List.mem_cons_of_mem _ hu))]
    unfold stp encC
    dsimp only
    rw [bytT_of (h v (List.mem_cons_self ..)), List.flatMap_cons, List.append_assoc]
def Wp (p : Pd) : Prop := Wn p.er ∧ ∀ v, v ∈ p.cs → Wn v
theorem stpP_fst {p : Pd} (h : Wp p) (s : List UInt8 × Int) : (stpP s p).1 = s.1 ++ encP p := by
  unfold stpP
  rw [stps_fst p.cs h.2]
  unfold stp encP
  dsimp only
  rw [bytT_of h.1, List.append_assoc, List.append_assoc]
  rfl
theorem stpPs_fst (ps : List Pd) (h : ∀ p, p ∈ ps → Wp p) : ∀ s : List UInt8 × Int, (ps.foldl stpP s).1 = s.1 ++ ps.flatMap encP := by
  induction ps with
  | nil => intro s; simp
  | cons p ps ih =>
    intro s
    rw [List.foldl_cons, ih (fun u hu => h u (List.mem_cons_of_mem _ hu)), stpP_fst (h p (List.mem_cons_self ..)), List.flatMap_cons, List.append_assoc]
theorem snoc_of {α : Type} {L : List α} {n : Nat} (h : L.length = n + 1) : ∃ M x, L = M ++ [x] ∧ M.length = n := by
  refine ⟨L.take n, L[n], ?_, by rw [List.length_take]; omega⟩
  have e : L.take (n + 1) = L := List.take_of_length_le (by omega)
  rw [List.take_append_getElem, e]
theorem rdC_enc : ∀ (n : Nat) (cs : List Nm) (r : List UInt8) (b : Bool), cs.length = n → (∀ v, v ∈ cs → Wn v) → rdC n (encC cs ++ r, b) = (cs.map fun v => (nmv v, v.2.2), r, b)
  | 0, cs, r, b, h, _ => by
    obtain rfl := List.length_eq_zero_iff.1 h
    simp [rdC, encC]
  | n + 1, cs, r, b, h, hw => by
    obtain ⟨M, x, rfl, hM⟩ := snoc_of h
    have e : encC (M ++ [x]) ++ r = encC M ++ (nbB x ++ r) := by unfold encC; rw [List.flatMap_append]; simp
    rw [e]
    unfold rdC
    rw [rdC_enc n M _ b hM (fun v hv => hw v (List.mem_append_left _ hv))]
    dsimp only
    rw [rdN_nb (hw x (by simp)), List.map_append]
    rfl
theorem by8_nat {n : Int} (h0 : 0 ≤ n) (h1 : n ≤ 255) : ((by8 n).toNat : Int) = n := by
  unfold by8
  have e : (n % 256).toNat = n.toNat := by omega
  rw [e]
  simp
  omega
theorem rdS_by {n : Int} (h0 : 0 ≤ n) (h1 : n ≤ 255) (r : List UInt8) (b : Bool) : rdS (by8 n :: r, b) = (n, r, b) := by
  unfold rdS
  dsimp only
  rw [by8_nat h0 h1]
def zOf (p : Pd) : PdZ := ⟨(nmv p.a, p.a.2.2), p.w, p.cs.map fun v => (nmv v, v.2.2), (nmv p.er, p.er.2.2)⟩
theorem rdP_enc {D : Int} {p : Pd} (hp : pieceB p D = true) (hw : Wp p) (d0 : 0 ≤ D) (zs : List PdZ) (r : List UInt8) (b : Bool) : rdP D (zs, (nmv p.a, p.a.2.2), encP p ++ r, b) = (zs ++ [zOf p], endq (nmv p.a) p.a.2.2 p.w, r, b) := by
  unfold pieceB at hp
  simp only [Bool.and_eq_true, decide_eq_true_eq] at hp
  obtain ⟨⟨h0, h1⟩, hl, _⟩ := hp
  unfold rdP encP
  dsimp only
  rw [List.cons_append, rdS_by (by omega) (by omega)]
  dsimp only
  rw [List.append_assoc, rdN_nb hw.1]
  dsimp only
  rw [rdC_enc (D + 1).toNat p.cs r b (by omega) hw.2]
  unfold zOf
  rw [show p.w + 128 - 128 = p.w by omega]
theorem rdPs_enc {D : Int} (d0 : 0 ≤ D) : ∀ (n : Nat) (ps : List Pd) (q q2 : Int × Int) (r : List UInt8), ps.length = n → (∀ p, p ∈ ps → Wp p) → rightL D ps q = some q2 → rdPs D n ([], q, ps.flatMap encP ++ r, false) = (ps.map zOf, q2, r, false)
  | 0, ps, q, q2, r, h, _, hr => by
    obtain rfl := List.length_eq_zero_iff.1 h
    simp only [rightL, Option.some.injEq] at hr
    subst hr
    simp [rdPs]
  | n + 1, ps, q, q2, r, h, hw, hr => by
    obtain ⟨M, p, rfl, hM⟩ := snoc_of h
    rw [rightL_snoc] at hr
    cases hq : rightL D M q with
    | none => rw [hq] at hr; cases hr
    | some q3 =>
      rw [hq, Option.bind_some] at hr
      split at hr
      · rename_i hc
        rw [Bool.and_eq_true, decide_eq_true_eq] at hc
        have e : (M ++ [p]).flatMap encP ++ r = M.flatMap encP ++ (encP p ++ r) := by rw [List.flatMap_append]; simp
        rw [e]
        unfold rdPs
        rw [rdPs_enc d0 n M q q3 _ hM (fun v hv => hw v (List.mem_append_left _ hv)) hq]
        dsimp only
        obtain ⟨q31, q32⟩ := q3
        obtain ⟨hc1, hc2, hc3⟩ := hc
        dsimp only at hc2 hc3
        subst hc2 hc3
        rw [if_neg (by simp), rdP_enc hc1 (hw p (by simp)) d0, List.map_append]
        simp only [Option.some.injEq] at hr
        rw [← hr]
        rfl
      · cases hr
def tOf (F O : Int) (a : Nm) (W Q D : Int) (ps : List Pd) : TbZ := ⟨F, O, Q, D, W, (nmv a, a.2.2), ps.map zOf⟩
def OkT (a : Nm) (ps : List Pd) : Prop := ok32 a.2.1 ∧ ∀ p, p ∈ ps → ok32 p.a.2.1 ∧ ok32 p.er.2.1 ∧ ∀ v, v ∈ p.cs → ok32 v.2.1
theorem right_parts {F O : Int} {a : Nm} {W Q D : Int} {ps : List Pd} (h : rightT F O a W Q D ps = true) : (1 ≤ F ∧ F ≤ 10) ∧ (0 ≤ O ∧ O ≤ 64) ∧ plainB a.1 a.2.1 a.2.2 = true ∧ (-30 ≤ W ∧ W ≤ 10) ∧ (4 ≤ Q ∧ Q ≤ 48) ∧ (1 ≤ D ∧ D ≤ 16) ∧ (1 ≤ ps.length ∧ ps.length ≤ 32) ∧ rightL D ps (nmv a, a.2.2) = some (endq (nmv a) a.2.2 W) := by
  unfold rightT at h
  simp only [Bool.and_eq_true, decide_eq_true_eq, beq_iff_eq] at h
  obtain ⟨h0, h1, h2, h3, h4, h5, h6, h7⟩ := h
  exact ⟨h0, h1, h2, h3, h4, h5, by omega, h7⟩
theorem wn_of {F O : Int} {a : Nm} {W Q D : Int} {ps : List Pd} (hr : rightT F O a W Q D ps = true) (hk : OkT a ps) (he : (encS F O a W Q D ps).2 = 0) : Wn a ∧ ∀ p, p ∈ ps → pieceB p D = true ∧ Wp p := by
  obtain ⟨_, _, h2, _, _, _, _, h7⟩ := right_parts hr
  unfold encS at he
  rw [stpPs_snd, stp_snd] at he
  have ra := rightA hk.1 h2
  refine ⟨⟨hk.1, ra.1, ra.2.2.1, he.1.2⟩, fun p hp => ?_⟩
  have hb := rightL_all h7 p hp
  obtain ⟨k1, k2, k3⟩ := hk.2 p hp
  have hb2 := hb
  unfold pieceB at hb2
  simp only [Bool.and_eq_true, List.all_eq_true] at hb2
  obtain ⟨_, _, ⟨_, her⟩, hcs, _⟩ := hb2
  obtain ⟨i1, i2⟩ := he.2 p hp
  have r1 := rightN k2 her
  refine ⟨hb, ⟨k2, r1.1, r1.2.2.1, i1⟩, fun v hv => ?_⟩
  have r2 := rightN (k3 v hv) (hcs v hv)
  exact ⟨k3 v hv, r2.1, r2.2.2.1, i2 v hv⟩
theorem encS_fst {F O : Int} {a : Nm} {W Q D : Int} {ps : List Pd} (hr : rightT F O a W Q D ps = true) (hk : OkT a ps) (he : (encS F O a W Q D ps).2 = 0) : (encS F O a W Q D ps).1 = headB F O W Q D ps.length ++ nbB a ++ ps.flatMap encP := by
  obtain ⟨ha, hp⟩ := wn_of hr hk he
  unfold encS
  rw [stpPs_fst ps (fun p h => (hp p h).2)]
  unfold stp
  dsimp only
  rw [bytT_of ha]
theorem rdT_enc {F O : Int} {a : Nm} {W Q D : Int} {ps : List Pd} (hr : rightT F O a W Q D ps = true) (hk : OkT a ps) (he : (encS F O a W Q D ps).2 = 0) (r : List UInt8) : rdT ((encS F O a W Q D ps).1 ++ r, false) = (tOf F O a W Q D ps, false) := by
  obtain ⟨ha, hp⟩ := wn_of hr hk he
  obtain ⟨h0, h1, h2, h3, h4, h5, h6, h7⟩ := right_parts hr
  rw [encS_fst hr hk he]
  have e : rdH (headB F O W Q D ps.length ++ nbB a ++ ps.flatMap encP ++ r, false) = (F, O, Q, D, W, (ps.length : Int), (nmv a, a.2.2), ps.flatMap encP ++ r, false) := by
    unfold rdH headB
    simp only [List.map_cons, List.map_nil, List.cons_append, List.nil_append, List.append_assoc]
    rw [rdS_by (by omega) (by omega)]
    simp only [if_true]
    rw [rdS_by (by omega) (by omega)]
    dsimp only
    rw [rdS_by (by omega) (by omega)]
    dsimp only
    rw [rdS_by (by omega) (by omega)]
    dsimp only
    rw [rdS_by (by omega) (by omega)]
    dsimp only
    rw [rdS_by (by omega) (by omega)]
    dsimp only
    rw [rdS_by (by omega) (by omega)]
    dsimp only
    rw [rdN_nb ha]
    simp only [show W + 128 - 128 = W by omega]
  unfold rdT
  rw [e]
  dsimp only
  rw [rdPs_enc (by omega) _ ps _ _ _ (by omega) (fun p h => (hp p h).2) h7]
  rfl
theorem zOf_to {p : Pd} {D : Int} (hk : ok32 p.a.2.1) (hp : pieceB p D = true) (hw : Wp p) : (zOf p).to = p := by
  unfold pieceB at hp
  simp only [Bool.and_eq_true] at hp
  obtain ⟨_, _, ⟨ha, _⟩, _, _⟩ := hp
  have c1 := (canon hk (rightN hk ha).1).1
  have c2 := (canon hw.1.1 hw.1.2.1).1
  unfold zOf PdZ.to
  dsimp only
  rw [c1, c2, List.map_map]
  have c3 : p.cs.map (nmOf ∘ fun v => (nmv v, v.2.2)) = p.cs := by
    have : ∀ v, v ∈ p.cs → (nmOf ∘ fun v => (nmv v, v.2.2)) v = id v := fun v hv => (canon (hw.2 v hv).1 (hw.2 v hv).2.1).1
    rw [List.map_congr_left this, List.map_id]
  rw [c3]
theorem tOf_back {F O : Int} {a : Nm} {W Q D : Int} {ps : List Pd} (hr : rightT F O a W Q D ps = true) (hk : OkT a ps) (he : (encS F O a W Q D ps).2 = 0) : nmOf (nmv a, a.2.2) = a ∧ (ps.map zOf).map PdZ.to = ps := by
  obtain ⟨ha, hp⟩ := wn_of hr hk he
  refine ⟨(canon ha.1 ha.2.1).1, ?_⟩
  rw [List.map_map]
  have : ∀ p, p ∈ ps → (PdZ.to ∘ zOf) p = id p := fun p h => zOf_to (hk.2 p h).1 (hp p h).1 (hp p h).2
  rw [List.map_congr_left this, List.map_id]
theorem tOf_enc {F O : Int} {a : Nm} {W Q D : Int} {ps : List Pd} (hr : rightT F O a W Q D ps = true) (hk : OkT a ps) (he : (encS F O a W Q D ps).2 = 0) : (tOf F O a W Q D ps).enc = encS F O a W Q D ps := by
  obtain ⟨h1, h2⟩ := tOf_back hr hk he
  unfold TbZ.enc tOf
  dsimp only
  rw [h1, h2]
  unfold encO
  rw [if_pos hr]
theorem dec_enc {F O : Int} {a : Nm} {W Q D : Int} {ps : List Pd} (hr : rightT F O a W Q D ps = true) (hk : OkT a ps) (he : (encS F O a W Q D ps).2 = 0) : decT (encS F O a W Q D ps).1 = some (tOf F O a W Q D ps) := by
  have h := rdT_enc hr hk he []
  rw [List.append_nil] at h
  unfold decT
  rw [h, if_pos]
  dsimp only
  rw [tOf_enc hr hk he]
  unfold outE outB
  rw [if_pos he, if_pos he]
  exact ⟨rfl, rfl, rfl⟩
theorem dec_more {F O : Int} {a : Nm} {W Q D : Int} {ps : List Pd} (hr : rightT F O a W Q D ps = true) (hk : OkT a ps) (he : (encS F O a W Q D ps).2 = 0) {r : List UInt8} (h0 : r ≠ []) : decT ((encS F O a W Q D ps).1 ++ r) = none := by
  have h := rdT_enc hr hk he r
  unfold decT
  rw [h, if_neg]
  rintro ⟨_, _, h3⟩
  dsimp only at h3
  rw [tOf_enc hr hk he] at h3
  unfold outB at h3
  rw [if_pos he] at h3
  have := congrArg List.length h3
  rw [List.length_append] at this
  exact h0 (List.length_eq_zero_iff.1 (by omega))
theorem okZ (a : Int × Int) (zs : List PdZ) : OkT (nmOf a) (zs.map PdZ.to) := by
  refine ⟨ok_digs _, fun p hp => ?_⟩
  obtain ⟨z, _, rfl⟩ := List.mem_map.1 hp
  refine ⟨ok_digs _, ok_digs _, fun v hv => ?_⟩
  obtain ⟨q, _, rfl⟩ := List.mem_map.1 hv
  exact ok_digs _
theorem enc_parts {F O : Int} {a : Nm} {W Q D : Int} {ps : List Pd} (h : outE (encO F O a W Q D ps) = 0) : rightT F O a W Q D ps = true ∧ (encS F O a W Q D ps).2 = 0 ∧ encO F O a W Q D ps = encS F O a W Q D ps := by
  unfold encO at h ⊢
  split at h
  · rename_i hr
    rw [if_pos hr]
    refine ⟨hr, ?_, rfl⟩
    unfold outE at h
    split at h
    · assumption
    · cases h
  · cases h
theorem dec_cut {F O : Int} {a : Nm} {W Q D : Int} {ps : List Pd} (hr : rightT F O a W Q D ps = true) (hk : OkT a ps) (he : (encS F O a W Q D ps).2 = 0) {k : Nat} (h0 : k < (encS F O a W Q D ps).1.length) : decT ((encS F O a W Q D ps).1.take k) = none := by
  cases hd : decT ((encS F O a W Q D ps).1.take k) with
  | none => rfl
  | some T =>
    exfalso
    unfold decT at hd
    split at hd
    · rename_i hc
      injection hd with hd
      rw [hd] at hc
      obtain ⟨_, h2, h3⟩ := hc
      obtain ⟨hr2, he2, ee⟩ := enc_parts (F := T.F) (O := T.O) (a := nmOf T.a) (W := T.W) (Q := T.Q) (D := T.D) (ps := T.ps.map PdZ.to) h2
      unfold TbZ.enc at h3
      rw [ee] at h3
      unfold outB at h3
      rw [if_pos he2] at h3
      have hm := dec_more hr2 (okZ _ _) he2 (r := (encS F O a W Q D ps).1.drop k) (fun e => by
        have := congrArg List.length e
        rw [List.length_drop] at this
        simp at this; omega)
      rw [h3, List.take_append_drop, dec_enc hr hk he] at hm
      cases hm
    · cases hd
theorem dec_back {l : List UInt8} {T : TbZ} (h : decT l = some T) : outE T.enc = 0 ∧ outB T.enc = l := by
  unfold decT at h
  split at h
  · rename_i hc
    injection h with h
    rw [h] at hc
    exact hc.2
  · cases h
theorem first_diff : ∀ (xs ys : List Nat), xs.length = ys.length → xs ≠ ys → ∃ i, i < xs.length ∧ xs[i]?.getD 0 ≠ ys[i]?.getD 0 ∧ ∀ j, j < i → xs[j]?.getD 0 = ys[j]?.getD 0 := by
  intro xs
  induction xs with
  | nil => intro ys h hne; cases ys; exact absurd rfl hne; simp at h
  | cons x r ih =>
    intro ys h hne
    rcases ys with _ | ⟨y, s⟩
    · simp at h
    · by_cases hx : x = y
      · subst hx
        obtain ⟨i, h1, h2, h3⟩ := ih s (by simpa using h) (fun e => hne (by rw [e]))
        refine ⟨i + 1, by simp; omega, by simpa using h2, fun j hj => ?_⟩
        rcases j with _ | j
        · rfl
        · simpa using h3 j (by omega)
      · exact ⟨0, by simp, by simpa using hx, fun j hj => by omega⟩
theorem Same_diff (A B : Option Addr) (c d : Nat) (s : Bool) (xs ys : List Nat) (w : World) (h : Dg w A c xs) (h' : Dg w B d ys) (hl : xs.length ≤ 16777216) (hlen : xs.length = ys.length) (hne : xs ≠ ys) :
    Calls Tryz.prog 67 #[.agg #[.bool s, .slice A xs.length c], .agg #[.bool s, .slice B xs.length d]] w fun e w' => e = .returned (.bool false) ∧ Below w.heap.size w w' := by
  obtain ⟨i, hi, hd, hs⟩ := first_diff xs ys hlen hne
  have hne : ((xs.length : Int) != (xs.length : Int)) = false := by simp
  have hns : (s != s) = false := by simp
  have H1 := qH (h.below (below2 w (.cells #[.bool s, .slice A xs.length c] 24) (.cells #[.bool s, .slice B xs.length d] 24)))
  have H2 := qH (h'.below (below2 w (.cells #[.bool s, .slice A xs.length c] 24) (.cells #[.bool s, .slice B xs.length d] 24)))
  have HS := qH hs
  have HD := qH hd
  have HLEN := qH hlen
  have hc1 := h.1
  have hc2 : xs.length ≤ d := by have := h'.1; omega
  clear h h' hs hd hlen
  go_enter Tryz.func67, Tryz.ntmps67
  go_wp2
  go_loopw [5] (fun v wr => (∃ k : Nat, k ≤ i ∧ v = .int .i64 k) ∧ ∃ m, wr = ((w.alloc (.cells #[.bool s, .slice A xs.length c] 24)).alloc (.cells #[.bool s, .slice B xs.length d] 24)).drewN m) (fun v _ => xs.length - (intOf v).toNat)
  case atStart => exact ⟨⟨0, Nat.zero_le _, rfl⟩, 0, rfl⟩
  case round =>
    obtain ⟨⟨k, hk, rfl⟩, m, rfl⟩ := hrel
    have hkl : k < xs.length := by omega
    obtain ⟨b, off, hA, hb, hcx⟩ := H1.out.2.2 (by omega)
    obtain ⟨b', off', hB, hb', hcy⟩ := H2.out.2.2 (by have := HLEN.out; omega)
    have hx := hcx k hkl
    have hy := hcy k (by have := HLEN.out; omega)
    by_cases hlt : k < i
    · rw [← HS.out k hlt] at hy
      generalize xs[k]?.getD 0 = x at *
      have t1 : ((x : Int) != (x : Int)) = false := by simp
      clear hcx hcy H1 H2
      subst hA hB
      go_wp2_with fail
      go_quiet (fail)
      go_wp2_with fail
      go_roundw
      case rel => exact ⟨⟨k + 1, by omega, by go_num⟩, _, rfl⟩
      case measure => simp [intOf]; omega
    · obtain rfl : k = i := by omega
      have hdd := HD.out
      generalize xs[k]?.getD 0 = x at *
      generalize ys[k]?.getD 0 = y at *
      have t1 : ((x : Int) != (y : Int)) = true := by simp; omega
      clear hcx hcy H1 H2 hdd
      subst hA hB
      go_wp2_with fail
      go_quiet (fail)
      go_wp2
      go_ret
      exact ⟨rfl, below_drewN (below_drewN (below2 _ _ _) _) _⟩
theorem Same_len (A B : Option Addr) (c d n k : Nat) (s r : Bool) (w : World) (hne : s ≠ r ∨ n ≠ k) :
    Calls Tryz.prog 67 #[.agg #[.bool s, .slice A n c], .agg #[.bool r, .slice B k d]] w fun e w' => e = .returned (.bool false) ∧ Below w.heap.size w w' := by
  by_cases hs : s = r
  · have hn : ((n : Int) != (k : Int)) = true := by
      have : n ≠ k := hne.resolve_left (fun h => h hs)
      simp; omega
    have hns : (s != s) = false := by simp
    subst hs
    clear hne
    go_enter Tryz.func67, Tryz.ntmps67
    go_wp2
    go_ret
    exact ⟨rfl, below2 _ _ _⟩
  · clear hne
    cases s <;> cases r
    · exact absurd rfl hs
    · clear hs
      go_enter Tryz.func67, Tryz.ntmps67
      go_wp2
      go_ret
      exact ⟨rfl, below2 _ _ _⟩
    · clear hs
      go_enter Tryz.func67, Tryz.ntmps67
      go_wp2
      go_ret
      exact ⟨rfl, below2 _ _ _⟩
    · exact absurd rfl hs
theorem Same_q {A B : Option Addr} {c d : Nat} {m n : Int} {q : Bool} {w : World} (h : Dg w A c (digs m.natAbs)) (h' : Dg w B d (digs n.natAbs)) (hl : (digs m.natAbs).length ≤ 16777216) (hq : decide (m = n) = q) :
    Calls Tryz.prog 67 #[.agg #[.bool (decide (m < 0)), .slice A (digs m.natAbs).length c], .agg #[.bool (decide (n < 0)), .slice B (digs n.natAbs).length d]] w fun e w' => e = .returned (.bool q) ∧ Below w.heap.size w w' := by
  by_cases hmn : m = n
  · subst hmn
    rw [decide_eq_true rfl] at hq; subst hq
    exact Same_any A B c d _ _ w h h' hl
  · rw [decide_eq_false hmn] at hq; subst hq
    by_cases hs : decide (m < 0) = decide (n < 0)
    · by_cases hlen : (digs m.natAbs).length = (digs n.natAbs).length
      · have := Same_diff A B c d (decide (m < 0)) _ _ w h h' hl hlen (fun e => hmn (by have := digs_inj e; rw [decide_eq_decide] at hs; omega))
        rw [← hs, ← hlen]; exact this
      · exact Same_len A B c d _ _ _ _ w (.inr hlen)
    · exact Same_len A B c d _ _ _ _ w (.inl hs)
theorem dSame_q {A B : Option Addr} {c d : Nat} {m n x y : Int} {q : Bool} {w : World} (h : Dg w A c (digs m.natAbs)) (h' : Dg w B d (digs n.natAbs)) (hl : (digs m.natAbs).length ≤ 10000) (hq : decide (m = n ∧ x = y) = q) :
    Calls Tryz.prog 34 #[.agg #[.bool (decide (m < 0)), .slice A (digs m.natAbs).length c, .int .i64 x], .agg #[.bool (decide (n < 0)), .slice B (digs n.natAbs).length d, .int .i64 y]] w fun e w' => e = .returned (.bool q) ∧ Below w.heap.size w w' := by
  by_cases hxy : x = y
  · subst hxy
    have HS := qH (fun W (h : Dg W A c (digs m.natAbs)) (h' : Dg W B d (digs n.natAbs)) => Same_q (q := q) h h' (by omega) (by rw [← hq]; simp))
    have H := qH h
    have H' := qH h'
    have t0 : (x == x) = true := by simp
    clear h h' hq
    go_enter Tryz.func34, Tryz.ntmps34
    go_wp2_with fail
    refine (HS.out _ (H.out.below (below2 _ _ _)) (H'.out.below (below2 _ _ _))).mono ?_
    rintro e w1 ⟨rfl, hb⟩
    have HB := qH ((below2 w _ _).trans (hb.mono (by simp; omega)))
    clear hb
    go_wp2
    go_ret
    exact ⟨rfl, HB.out⟩
  · have t0 : (x == y) = false := by simpa using hxy
    rw [decide_eq_false (fun e => hxy e.2)] at hq
    subst hq
    clear hxy h h'
    go_enter Tryz.func34, Tryz.ntmps34
    go_wp2
    go_ret
    exact ⟨rfl, below2 _ _ _⟩
end Go.Proofs.YtdmfapgclppmhaaGreatDoor
end
