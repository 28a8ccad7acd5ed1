/-
  The document's Join and Split.
-/
import Derived.Test.YtkbdcbcjbgbglaaNy
namespace Go.Proofs.Ytkbdcbcjbgbglaa
open Go.RowKit
set_option linter.unusedVariables false
set_option linter.unusedSimpArgs false
/-- A list whose block, if it has one, lies from lo on, below hi. -/
def Ol {α : Type} (g : α → Value) (w : World) (lo hi : Nat) (A : Option Addr) (c : Nat) (xs : List α) : Prop := Rl g w A c xs ∧ ∀ b o, A = some ⟨b, o, none⟩ → lo ≤ b ∧ b < hi
theorem cell_of_block {w w' : World} {b : Nat} (h : w'.heap[b]? = w.heap[b]?) (i : Nat) : w'.cell? ⟨b, i, none⟩ = w.cell? ⟨b, i, none⟩ := by
  unfold World.cell?
  rw [h]
theorem Ol.below {α : Type} {g : α → Value} {w w' : World} {lo hi : Nat} {A : Option Addr} {c : Nat} {xs : List α} (h : Ol g w lo hi A c xs) (hb : Below w.heap.size w w') : Ol g w' lo hi A c xs := ⟨h.1.below hb, h.2⟩
theorem Ol.grow {α : Type} {g : α → Value} {w w' : World} {lo hi : Nat} {A : Option Addr} {c : Nat} {xs : List α} {r : Option Nat} (h : Ol g w lo hi A c xs) (hg : w.grownBy w' r) (hr : ∀ k, r = some k → k < lo ∨ hi ≤ k) : Ol g w' lo hi A c xs := by
  refine ⟨⟨h.1.1, fun h0 => ?_⟩, h.2⟩
  obtain ⟨b, off, e, hlt, hc⟩ := h.1.2 h0
  have h2 := h.2 b off e
  have hb : w'.heap[b]? = w.heap[b]? := hg.block b hlt (fun e => by have := hr b e.symm; omega)
  refine ⟨b, off, e, Nat.lt_of_lt_of_le hlt hg.size, fun j x hj => ?_⟩
  have h3 := hc j x hj
  rw [← h3]
  exact cell_of_block hb _
theorem Ol.set {α : Type} {g : α → Value} {w : World} {lo hi : Nat} {A : Option Addr} {c : Nat} {xs : List α} (h : Ol g w lo hi A c xs) {k : Nat} (hk : k < lo) (i : Nat) (v : Value) : Ol g (w.setCell ⟨k, i, none⟩ v) lo hi A c xs :=
  h.grow (grow_set w k i v) (fun j e => by injection e with e; omega)
theorem Bx.ol1 {w x x9 : World} {base g : Nat} {T : TypeId} {lf : Bool} {A : Option Addr} {c : Nat} {zs : List (List UInt8)} {B : Option Addr} {d : Nat} {ys : List Int} (h : Bx w x base g T lf A c zs B d ys) (hg : x.grownBy x9 (Value.slice A zs.length c).ownBlock)
    {α : Type} {gg : α → Value} {lo : Nat} {A0 : Option Addr} {c0 : Nat} {xs : List α} (ho : Ol gg x lo base A0 c0 xs) (hlo : g < lo) (i : Nat) (v : Value) : Ol gg (x9.setCell ⟨g, i, none⟩ v) lo base A0 c0 xs :=
  (ho.grow hg (fun k hk => .inr (h.o1.lt k hk).1)).set hlo i v
theorem Bx.ol2 {w x x9 : World} {base g : Nat} {T : TypeId} {lf : Bool} {A : Option Addr} {c : Nat} {zs : List (List UInt8)} {B : Option Addr} {d : Nat} {ys : List Int} (h : Bx w x base g T lf A c zs B d ys) (hg : x.grownBy x9 (Value.slice B ys.length d).ownBlock)
    {α : Type} {gg : α → Value} {lo : Nat} {A0 : Option Addr} {c0 : Nat} {xs : List α} (ho : Ol gg x lo base A0 c0 xs) (hlo : g < lo) (i : Nat) (v : Value) : Ol gg (x9.setCell ⟨g, i, none⟩ v) lo base A0 c0 xs :=
  (ho.grow hg (fun k hk => .inr (h.o2.lt k hk).1)).set hlo i v
theorem own_ol {α : Type} {g : α → Value} {w : World} {base : Nat} {e : TypeId} {A : Option Addr} {c n : Nat} {xs : List α} (h : w.ownsRow base e 1 (.slice A n c) n (xs.map g)) : Ol g w base w.heap.size A c xs :=
  ⟨(rl_own' h).1, fun b o e => by
    subst e
    rcases h.2 with ⟨h0, _⟩ | ⟨k, cap, cur, hv, _⟩
    · cases h0
    · injection hv with e1 e2 e3
      injection e1 with e1
      injection e1 with e4 e5
      exact h.lt b (by simp [Value.ownBlock, e5])⟩
theorem Bx.ol {w V : World} {base g : Nat} {T : TypeId} {lf : Bool} {A : Option Addr} {c : Nat} {zs : List (List UInt8)} {B : Option Addr} {d : Nat} {ys : List Int} (h : Bx w V base g T lf A c zs B d ys) : Ol sv V base V.heap.size A c zs ∧ Ol nv V base V.heap.size B d ys := ⟨own_ol h.o1, own_ol h.o2⟩
set_option maxHeartbeats 4000000 in
set_option maxRecDepth 100000 in
theorem rjoin_f (A A2 B B2 : Option Addr) (c c2 d d2 : Nat) (ka kb : List (List UInt8)) (da db : List Int) (mid : List UInt8) (w : World) (h1 : Rl sv w A c ka) (h2 : Rl nv w B d da) (h3 : Rl sv w A2 c2 kb) (h4 : Rl nv w B2 d2 db)
    (l1 : ka.length ≤ 1000000) (l2 : da.length ≤ 1000000) (l3 : kb.length ≤ 1000000) (l4 : db.length ≤ 1000000) (Z1 Zm Z2 : List (List UInt8)) (X1 X2 : List Int)
    (E1 : [] ++ ka = Z1) (Em : Z1 ++ [mid] = Zm) (E2 : Zm ++ kb = Z2) (Q1 : [] ++ da = X1) (Q2 : X1 ++ db = X2) :
    Calls Try.prog 32 #[.agg #[.bool false, .slice A ka.length c, .slice B da.length d], .string ⟨mid.toArray⟩, .agg #[.bool false, .slice A2 kb.length c2, .slice B2 db.length d2]] w fun e w' => (fitsB Z2 X2 = true → ∃ A' c' B' d', e = .returned (.tuple #[.agg #[.bool false, .slice A' Z2.length c', .slice B' X2.length d'], .bool true]) ∧ Rl sv w' A' c' Z2 ∧ Rl nv w' B' d' X2) ∧ (fitsB Z2 X2 = false → e = .returned (.tuple #[.agg #[.bool false, .slice none 0 0, .slice none 0 0], .bool false])) ∧ Below w.heap.size w w' := by
  have BN := Lib.hid (show Z1.length ≤ 4000000 ∧ Zm.length ≤ 4000000 ∧ Z2.length ≤ 4000000 ∧ X1.length ≤ 4000000 ∧ X2.length ≤ 4000000 by
    rw [← E2, ← Em, ← E1, ← Q2, ← Q1]
    simp only [List.length_append, List.length_nil, List.length_singleton]
    omega)
  have EK := Lib.hid (And.intro E1 (And.intro Em E2))
  have EQ := Lib.hid (And.intro Q1 Q2)
  have H1 := Lib.hid (And.intro h1 h2)
  have H2 := Lib.hid (And.intro h3 h4)
  have hll : (false != false) = false := by simp
  obtain ⟨W, hW⟩ : ∃ W : World, W = (((w.alloc (.cells #[.bool false, .slice A ka.length c, .slice B da.length d] 33)).alloc (.cells #[.bool false, .slice A2 kb.length c2, .slice B2 db.length d2] 33)).alloc (.cells #[.bool false, .slice none 0 0, .slice none 0 0] 33)).alloc (.cells #[.bool false, .slice none 0 0, .slice none 0 0] 33) := ⟨_, rfl⟩
  have RWa := Lib.hid (show W.heap[w.heap.size]? = some (.cells #[.bool false, .slice A ka.length c, .slice B da.length d] 33 (0, 0)) by rw [hW]; exact row_on (row_on (row_on (heap_alloc_new w _) (bda _ _)) (bda _ _)) (bda _ _))
  have RWb := Lib.hid (show W.heap[w.heap.size + 1]? = some (.cells #[.bool false, .slice A2 kb.length c2, .slice B2 db.length d2] 33 (0, 0)) by rw [hW]; have := row_on (row_on (heap_alloc_new (w.alloc (.cells #[.bool false, .slice A ka.length c, .slice B da.length d] 33)) (.cells #[.bool false, .slice A2 kb.length c2, .slice B2 db.length d2] 33)) (bda _ (.cells #[.bool false, .slice none 0 0, .slice none 0 0] 33))) (bda _ (.cells #[.bool false, .slice none 0 0, .slice none 0 0] 33)); simpa using this)
  have RR := Lib.hid (show W.heap[w.heap.size + 2]? = some (.cells #[.bool false, .slice none 0 0, .slice none 0 0] 33 (0, 0)) by rw [hW]; have := row_on (heap_alloc_new ((w.alloc (.cells #[.bool false, .slice A ka.length c, .slice B da.length d] 33)).alloc (.cells #[.bool false, .slice A2 kb.length c2, .slice B2 db.length d2] 33)) (.cells #[.bool false, .slice none 0 0, .slice none 0 0] 33)) (bda _ (.cells #[.bool false, .slice none 0 0, .slice none 0 0] 33)); simpa using this)
  have RO := Lib.hid (show W.heap[w.heap.size + 3]? = some (.cells #[.bool false, .slice none 0 0, .slice none 0 0] 33 (0, 0)) by rw [hW]; have := heap_alloc_new (((w.alloc (.cells #[.bool false, .slice A ka.length c, .slice B da.length d] 33)).alloc (.cells #[.bool false, .slice A2 kb.length c2, .slice B2 db.length d2] 33)).alloc (.cells #[.bool false, .slice none 0 0, .slice none 0 0] 33)) (.cells #[.bool false, .slice none 0 0, .slice none 0 0] 33); simpa using this)
  have BX := Lib.hid (Bx.fresh (w := w) (base := w.heap.size + 4) RO.out (show Below w.heap.size w W by rw [hW]; exact bon (bon (bon (bda _ _) (bda _ _)) (bda _ _)) (bda _ _)) (heap_lt RO.out) ⟨by omega, by omega⟩)
  have HW := Lib.hid hW
  clear hW RO h1 h2 h3 h4 l1 l2 l3 l4 E1 Em E2 Q1 Q2
  go_enter Try.func32, Try.ntmps32
  go_upto_region 4 with (fail)
  rw [← HW.out]
  clear HW
  have BY := Lib.hid (BX.out.below (Below.refl _ _))
  obtain ⟨fo0, fo1, fo2⟩ := BX.out.f (Below.refl _ _)
  have fn := row_c RWa.out (i := 1) rfl
  go_wp2_with (at_builtin; refine wpList_append2 sv_one et_s rfl _ _ rfl (w.heap.size + 4) (.slice none 0 0) ([] : List (List UInt8)) ka Z1 A c (ka.length) rfl (by exact BY.out.o1) (by exact BY.out.old H1.out.1) rfl rfl EK.out.1 BN.out.1 (by exact BY.out.bz) ?_)
  clear fo0 fo1 fo2 fn
  intro A9 c9 x9 ho9 hg9 hn9
  obtain ⟨ABX1, hA2⟩ : ∃ z, A9 = z := ⟨_, rfl⟩
  obtain ⟨cBX1, hc2⟩ : ∃ z, c9 = z := ⟨_, rfl⟩
  rw [hA2, hc2] at ho9 hn9 ⊢
  have BN := Lib.hid (BY.out.push1 ho9 hg9 hn9)
  have N9 := Lib.hid (BY.out.row1 hg9 BY.out.lt.2 BY.out.row)
  obtain ⟨VBX1, hU⟩ : ∃ U : World, U = x9.setCell ⟨w.heap.size + 3, 1, none⟩ (.slice ABX1 Z1.length cBX1) := ⟨_, rfl⟩
  rw [← hU] at BN
  have RWaz := Lib.hid (show VBX1.heap[w.heap.size]? = some _ by rw [hU]; exact row_far (BY.out.row1 hg9 (by omega) RWa.out) (by omega) _)
  have RWbz := Lib.hid (show VBX1.heap[w.heap.size + 1]? = some _ by rw [hU]; exact row_far (BY.out.row1 hg9 (by omega) RWb.out) (by omega) _)
  have RRz := Lib.hid (show VBX1.heap[w.heap.size + 2]? = some _ by rw [hU]; exact row_far (BY.out.row1 hg9 (by omega) RR.out) (by omega) _)
  have f9 := row_c N9.out (i := 1) rfl
  have q9 := frozen_of_row _ _ 1 _ _ N9.out
  clear ho9 hg9 hn9 hA2 hc2 BY N9 BX RWa RWb RR
  have BX := BN
  clear BN
  have RWa := RWaz
  clear RWaz
  have RWb := RWbz
  clear RWbz
  have RR := RRz
  clear RRz
  have HU := Lib.hid hU
  clear hU
  go_upto_region 5 with (fail)
  rw [← HU.out]
  clear HU f9 q9
  have f0 := row_c RWa.out (i := 0) rfl
  go_upto_region 6 with (fail)
  clear f0
  obtain ⟨Y, hY⟩ : ∃ Y : World, Y = VBX1.alloc (.cells #[.string ⟨mid.toArray⟩] 9) := ⟨_, rfl⟩
  have HY := Lib.hid hY
  have BY := Lib.hid (show Bx w Y _ _ _ _ _ _ _ _ _ _ by rw [hY]; exact BX.out.below (bda _ _))
  have RK := Lib.hid (show Rl sv Y (some ⟨VBX1.heap.size, 0, none⟩) 1 [mid] by rw [hY]; exact rl_of_row (g := sv) (xs := [mid]) (heap_alloc_new _ _) 1 (Nat.le_refl _))
  have RWa := Lib.hid (show Y.heap[_]? = some _ by rw [hY]; exact row_on RWa.out (bda _ _))
  have RWb := Lib.hid (show Y.heap[_]? = some _ by rw [hY]; exact row_on RWb.out (bda _ _))
  have RR := Lib.hid (show Y.heap[_]? = some _ by rw [hY]; exact row_on RR.out (bda _ _))
  obtain ⟨fo0, fo1, fo2⟩ := BX.out.f (Below.refl _ _)
  have SY := Lib.hid (show Y.heap.size = VBX1.heap.size + 1 by rw [hY]; simp)
  clear hY
  go_wp2_with (at_builtin; refine wpList_append2 sv_one et_s rfl _ _ rfl (w.heap.size + 4) (.slice ABX1 Z1.length cBX1) Z1 [mid] Zm (some ⟨VBX1.heap.size, 0, none⟩) 1 1 rfl (by rw [← HY.out]; exact BY.out.o1) (by rw [← HY.out]; exact RK.out) rfl rfl EK.out.2.1 BN.out.2.1 (by rw [← HY.out]; exact BY.out.bz) ?_)
  rw [← HY.out]
  clear HY fo0 fo1 fo2
  intro A9 c9 x9 ho9 hg9 hn9
  rw [← SY.out] at hn9
  clear SY
  obtain ⟨ABX2, hA2⟩ : ∃ z, A9 = z := ⟨_, rfl⟩
  obtain ⟨cBX2, hc2⟩ : ∃ z, c9 = z := ⟨_, rfl⟩
  rw [hA2, hc2] at ho9 hn9 ⊢
  have BN := Lib.hid (BY.out.push1 ho9 hg9 hn9)
  have N9 := Lib.hid (BY.out.row1 hg9 BY.out.lt.2 BY.out.row)
  obtain ⟨VBX2, hU⟩ : ∃ U : World, U = x9.setCell ⟨w.heap.size + 3, 1, none⟩ (.slice ABX2 Zm.length cBX2) := ⟨_, rfl⟩
  rw [← hU] at BN
  have RWaz := Lib.hid (show VBX2.heap[w.heap.size]? = some _ by rw [hU]; exact row_far (BY.out.row1 hg9 (by omega) RWa.out) (by omega) _)
  have RWbz := Lib.hid (show VBX2.heap[w.heap.size + 1]? = some _ by rw [hU]; exact row_far (BY.out.row1 hg9 (by omega) RWb.out) (by omega) _)
  have RRz := Lib.hid (show VBX2.heap[w.heap.size + 2]? = some _ by rw [hU]; exact row_far (BY.out.row1 hg9 (by omega) RR.out) (by omega) _)
  have f9 := row_c N9.out (i := 1) rfl
  have q9 := frozen_of_row _ _ 1 _ _ N9.out
  clear ho9 hg9 hn9 hA2 hc2 BY N9 BX RWa RWb RR
  have BX := BN
  clear BN
  have RWa := RWaz
  clear RWaz
  have RWb := RWbz
  clear RWbz
  have RR := RRz
  clear RRz
  have HU := Lib.hid hU
  clear hU RK
  go_upto_region 7 with (fail)
  rw [← HU.out]
  clear HU f9 q9
  have BY := Lib.hid (BX.out.below (Below.refl _ _))
  obtain ⟨fo0, fo1, fo2⟩ := BX.out.f (Below.refl _ _)
  have fn := row_c RWb.out (i := 1) rfl
  go_wp2_with (at_builtin; refine wpList_append2 sv_one et_s rfl _ _ rfl (w.heap.size + 4) (.slice ABX2 Zm.length cBX2) Zm kb Z2 A2 c2 (kb.length) rfl (by exact BY.out.o1) (by exact BY.out.old H2.out.1) rfl rfl EK.out.2.2 BN.out.2.2.1 (by exact BY.out.bz) ?_)
  clear fo0 fo1 fo2 fn
  intro A9 c9 x9 ho9 hg9 hn9
  obtain ⟨ABX3, hA2⟩ : ∃ z, A9 = z := ⟨_, rfl⟩
  obtain ⟨cBX3, hc2⟩ : ∃ z, c9 = z := ⟨_, rfl⟩
  rw [hA2, hc2] at ho9 hn9 ⊢
  have BN := Lib.hid (BY.out.push1 ho9 hg9 hn9)
  have N9 := Lib.hid (BY.out.row1 hg9 BY.out.lt.2 BY.out.row)
  obtain ⟨VBX3, hU⟩ : ∃ U : World, U = x9.setCell ⟨w.heap.size + 3, 1, none⟩ (.slice ABX3 Z2.length cBX3) := ⟨_, rfl⟩
  rw [← hU] at BN
  have RWaz := Lib.hid (show VBX3.heap[w.heap.size]? = some _ by rw [hU]; exact row_far (BY.out.row1 hg9 (by omega) RWa.out) (by omega) _)
  have RWbz := Lib.hid (show VBX3.heap[w.heap.size + 1]? = some _ by rw [hU]; exact row_far (BY.out.row1 hg9 (by omega) RWb.out) (by omega) _)
  have RRz := Lib.hid (show VBX3.heap[w.heap.size + 2]? = some _ by rw [hU]; exact row_far (BY.out.row1 hg9 (by omega) RR.out) (by omega) _)
  have f9 := row_c N9.out (i := 1) rfl
  have q9 := frozen_of_row _ _ 1 _ _ N9.out
  clear ho9 hg9 hn9 hA2 hc2 BY N9 BX RWa RWb RR
  have BX := BN
  clear BN
  have RWa := RWaz
  clear RWaz
  have RWb := RWbz
  clear RWbz
  have RR := RRz
  clear RRz
  have HU := Lib.hid hU
  clear hU
  go_upto_region 8 with (fail)
  rw [← HU.out]
  clear HU f9 q9
  have BY := Lib.hid (BX.out.below (Below.refl _ _))
  obtain ⟨fo0, fo1, fo2⟩ := BX.out.f (Below.refl _ _)
  have fn := row_c RWa.out (i := 2) rfl
  go_wp2_with (at_builtin; refine wpList_append2 nv_one et_i rfl _ _ rfl (w.heap.size + 4) (.slice none 0 0) ([] : List Int) da X1 B d (da.length) rfl (by exact BY.out.o2) (by exact BY.out.old H1.out.2) rfl rfl EQ.out.1 BN.out.2.2.2.1 (by exact BY.out.bz) ?_)
  clear fo0 fo1 fo2 fn
  intro A9 c9 x9 ho9 hg9 hn9
  obtain ⟨ABX4, hA2⟩ : ∃ z, A9 = z := ⟨_, rfl⟩
  obtain ⟨cBX4, hc2⟩ : ∃ z, c9 = z := ⟨_, rfl⟩
  rw [hA2, hc2] at ho9 hn9 ⊢
  have BN := Lib.hid (BY.out.push2 ho9 hg9 hn9)
  have N9 := Lib.hid (BY.out.row2 hg9 BY.out.lt.2 BY.out.row)
  obtain ⟨VBX4, hU⟩ : ∃ U : World, U = x9.setCell ⟨w.heap.size + 3, 2, none⟩ (.slice ABX4 X1.length cBX4) := ⟨_, rfl⟩
  rw [← hU] at BN
  have RWaz := Lib.hid (show VBX4.heap[w.heap.size]? = some _ by rw [hU]; exact row_far (BY.out.row2 hg9 (by omega) RWa.out) (by omega) _)
  have RWbz := Lib.hid (show VBX4.heap[w.heap.size + 1]? = some _ by rw [hU]; exact row_far (BY.out.row2 hg9 (by omega) RWb.out) (by omega) _)
  have RRz := Lib.hid (show VBX4.heap[w.heap.size + 2]? = some _ by rw [hU]; exact row_far (BY.out.row2 hg9 (by omega) RR.out) (by omega) _)
  have f9 := row_c N9.out (i := 2) rfl
  have q9 := frozen_of_row _ _ 2 _ _ N9.out
  clear ho9 hg9 hn9 hA2 hc2 BY N9 BX RWa RWb RR
  have BX := BN
  clear BN
  have RWa := RWaz
  clear RWaz
  have RWb := RWbz
  clear RWbz
  have RR := RRz
  clear RRz
  have HU := Lib.hid hU
  clear hU
  go_upto_region 9 with (fail)
  rw [← HU.out]
  clear HU f9 q9
  have BY := Lib.hid (BX.out.below (Below.refl _ _))
  obtain ⟨fo0, fo1, fo2⟩ := BX.out.f (Below.refl _ _)
  have fn := row_c RWb.out (i := 2) rfl
  go_wp2_with (at_builtin; refine wpList_append2 nv_one et_i rfl _ _ rfl (w.heap.size + 4) (.slice ABX4 X1.length cBX4) X1 db X2 B2 d2 (db.length) rfl (by exact BY.out.o2) (by exact BY.out.old H2.out.2) rfl rfl EQ.out.2 BN.out.2.2.2.2 (by exact BY.out.bz) ?_)
  clear fo0 fo1 fo2 fn
  intro A9 c9 x9 ho9 hg9 hn9
  obtain ⟨ABX5, hA2⟩ : ∃ z, A9 = z := ⟨_, rfl⟩
  obtain ⟨cBX5, hc2⟩ : ∃ z, c9 = z := ⟨_, rfl⟩
  rw [hA2, hc2] at ho9 hn9 ⊢
  have BN := Lib.hid (BY.out.push2 ho9 hg9 hn9)
  have N9 := Lib.hid (BY.out.row2 hg9 BY.out.lt.2 BY.out.row)
  obtain ⟨VBX5, hU⟩ : ∃ U : World, U = x9.setCell ⟨w.heap.size + 3, 2, none⟩ (.slice ABX5 X2.length cBX5) := ⟨_, rfl⟩
  rw [← hU] at BN
  have RWaz := Lib.hid (show VBX5.heap[w.heap.size]? = some _ by rw [hU]; exact row_far (BY.out.row2 hg9 (by omega) RWa.out) (by omega) _)
  have RWbz := Lib.hid (show VBX5.heap[w.heap.size + 1]? = some _ by rw [hU]; exact row_far (BY.out.row2 hg9 (by omega) RWb.out) (by omega) _)
  have RRz := Lib.hid (show VBX5.heap[w.heap.size + 2]? = some _ by rw [hU]; exact row_far (BY.out.row2 hg9 (by omega) RR.out) (by omega) _)
  have f9 := row_c N9.out (i := 2) rfl
  have q9 := frozen_of_row _ _ 2 _ _ N9.out
  clear ho9 hg9 hn9 hA2 hc2 BY N9 BX RWa RWb RR
  have BX := BN
  clear BN
  have RWa := RWaz
  clear RWaz
  have RWb := RWbz
  clear RWbz
  have RR := RRz
  clear RRz
  have HU := Lib.hid hU
  clear hU
  go_upto_region 10 with (fail)
  rw [← HU.out]
  clear HU f9 q9
  obtain ⟨fo0, fo1, fo2⟩ := BX.out.f (Below.refl _ _)
  go_wp2_with fail
  refine (rsize_w false ABX3 cBX3 Z2 ABX5 cBX5 X2 _ BX.out.rl.1 (by have := BN.out; omega) (by have := BN.out; omega)).mono ?_
  rintro e x ⟨rfl, hx⟩
  have BY := Lib.hid (BX.out.below hx)
  have RRx := Lib.hid (row_on RR.out hx)
  clear BX RR fo0 fo1 fo2 hx
  have BX := BY
  have RR := RRx
  clear BY RRx
  generalize hSN : wz Z2 X2 = SN at *
  have HSN := Lib.hid hSN
  clear hSN
  obtain ⟨fo0, fo1, fo2⟩ := BX.out.f (Below.refl _ _)
  have p0 := row_c RR.out (i := 0) rfl
  have p1 := row_c RR.out (i := 1) rfl
  have p2 := row_c RR.out (i := 2) rfl
  have y0 := frozen_of_row _ _ 0 _ _ RR.out
  have y1 := frozen_of_row _ _ 1 _ _ RR.out
  have y2 := frozen_of_row _ _ 2 _ _ RR.out
  by_cases hbig : SN ≤ 120
  · have e3 : decide (120 < SN) = false := decide_eq_false (by omega)
    have HBG := Lib.hid (show fitsB Z2 X2 = true by unfold fitsB; rw [HSN.out]; exact decide_eq_true hbig)
    clear hbig
    go_wp2
    refine bodyPost_ret (v := .tuple #[.agg #[.bool false, .slice ABX3 Z2.length cBX3, .slice ABX5 X2.length cBX5], .bool true]) (by simp [results, Try.results32, go_sem, p0, p1, p2]) rfl ⟨fun _ => ⟨ABX3, cBX3, ABX5, cBX5, rfl, ?_, ?_⟩, fun h => (by rw [HBG.out] at h; cases h), ?_⟩
    · exact ((BX.out.rl.1.set BX.out.rl.2.2.1 (by omega) _ _).set BX.out.rl.2.2.1 (by omega) _ _).set BX.out.rl.2.2.1 (by omega) _ _
    · exact ((BX.out.rl.2.1.set BX.out.rl.2.2.2 (by omega) _ _).set BX.out.rl.2.2.2 (by omega) _ _).set BX.out.rl.2.2.2 (by omega) _ _
    · exact ((BX.out.kb.setCell (by first | (simp; done) | (simp; omega)) _).setCell (by first | (simp; done) | (simp; omega)) _).setCell (by first | (simp; done) | (simp; omega)) _
  · have e3 : decide (120 < SN) = true := decide_eq_true (by omega)
    have HBG := Lib.hid (show fitsB Z2 X2 = false by unfold fitsB; rw [HSN.out]; exact decide_eq_false hbig)
    clear hbig
    go_wp2
    refine bodyPost_ret (v := .tuple #[.agg #[.bool false, .slice none 0 0, .slice none 0 0], .bool false]) (by simp [results, Try.results32, go_sem, p0, p1, p2]) rfl ⟨fun h => (by rw [HBG.out] at h; cases h), fun _ => rfl, ?_⟩
    exact ((BX.out.kb.setCell (by first | (simp; done) | (simp; omega)) _).setCell (by first | (simp; done) | (simp; omega)) _).setCell (by first | (simp; done) | (simp; omega)) _
set_option maxHeartbeats 4000000 in
set_option maxRecDepth 100000 in
theorem rjoin_t (A A2 B B2 : Option Addr) (c c2 d d2 : Nat) (ka kb : List (List UInt8)) (da db : List Int) (mid : List UInt8) (w : World) (h1 : Rl sv w A c ka) (h2 : Rl nv w B d da) (h3 : Rl sv w A2 c2 kb) (h4 : Rl nv w B2 d2 db)
    (l1 : ka.length ≤ 1000000) (l2 : da.length ≤ 1000000) (l3 : kb.length ≤ 1000000) (l4 : db.length ≤ 1000000) (Z1 Zm Z2 : List (List UInt8)) (X1 X2 : List Int)
    (E1 : [] ++ ka = Z1) (Em : Z1 ++ [mid] = Zm) (E2 : Z1 ++ kb = Z2) (Q1 : [] ++ da = X1) (Q2 : X1 ++ db = X2) :
    Calls Try.prog 32 #[.agg #[.bool true, .slice A ka.length c, .slice B da.length d], .string ⟨mid.toArray⟩, .agg #[.bool true, .slice A2 kb.length c2, .slice B2 db.length d2]] w fun e w' => (fitsB Z2 X2 = true → ∃ A' c' B' d', e = .returned (.tuple #[.agg #[.bool true, .slice A' Z2.length c', .slice B' X2.length d'], .bool true]) ∧ Rl sv w' A' c' Z2 ∧ Rl nv w' B' d' X2) ∧ (fitsB Z2 X2 = false → e = .returned (.tuple #[.agg #[.bool false, .slice none 0 0, .slice none 0 0], .bool false])) ∧ Below w.heap.size w w' := by
  have BN := Lib.hid (show Z1.length ≤ 4000000 ∧ Zm.length ≤ 4000000 ∧ Z2.length ≤ 4000000 ∧ X1.length ≤ 4000000 ∧ X2.length ≤ 4000000 by
    rw [← E2, ← Em, ← E1, ← Q2, ← Q1]
    simp only [List.length_append, List.length_nil, List.length_singleton]
    omega)
  have EK := Lib.hid (And.intro E1 (And.intro Em E2))
  have EQ := Lib.hid (And.intro Q1 Q2)
  have H1 := Lib.hid (And.intro h1 h2)
  have H2 := Lib.hid (And.intro h3 h4)
  have hll : (true != true) = false := by simp
  obtain ⟨W, hW⟩ : ∃ W : World, W = (((w.alloc (.cells #[.bool true, .slice A ka.length c, .slice B da.length d] 33)).alloc (.cells #[.bool true, .slice A2 kb.length c2, .slice B2 db.length d2] 33)).alloc (.cells #[.bool false, .slice none 0 0, .slice none 0 0] 33)).alloc (.cells #[.bool true, .slice none 0 0, .slice none 0 0] 33) := ⟨_, rfl⟩
  have RWa := Lib.hid (show W.heap[w.heap.size]? = some (.cells #[.bool true, .slice A ka.length c, .slice B da.length d] 33 (0, 0)) by rw [hW]; exact row_on (row_on (row_on (heap_alloc_new w _) (bda _ _)) (bda _ _)) (bda _ _))
  have RWb := Lib.hid (show W.heap[w.heap.size + 1]? = some (.cells #[.bool true, .slice A2 kb.length c2, .slice B2 db.length d2] 33 (0, 0)) by rw [hW]; have := row_on (row_on (heap_alloc_new (w.alloc (.cells #[.bool true, .slice A ka.length c, .slice B da.length d] 33)) (.cells #[.bool true, .slice A2 kb.length c2, .slice B2 db.length d2] 33)) (bda _ (.cells #[.bool false, .slice none 0 0, .slice none 0 0] 33))) (bda _ (.cells #[.bool true, .slice none 0 0, .slice none 0 0] 33)); simpa using this)
  have RR := Lib.hid (show W.heap[w.heap.size + 2]? = some (.cells #[.bool false, .slice none 0 0, .slice none 0 0] 33 (0, 0)) by rw [hW]; have := row_on (heap_alloc_new ((w.alloc (.cells #[.bool true, .slice A ka.length c, .slice B da.length d] 33)).alloc (.cells #[.bool true, .slice A2 kb.length c2, .slice B2 db.length d2] 33)) (.cells #[.bool false, .slice none 0 0, .slice none 0 0] 33)) (bda _ (.cells #[.bool true, .slice none 0 0, .slice none 0 0] 33)); simpa using this)
  have RO := Lib.hid (show W.heap[w.heap.size + 3]? = some (.cells #[.bool true, .slice none 0 0, .slice none 0 0] 33 (0, 0)) by rw [hW]; have := heap_alloc_new (((w.alloc (.cells #[.bool true, .slice A ka.length c, .slice B da.length d] 33)).alloc (.cells #[.bool true, .slice A2 kb.length c2, .slice B2 db.length d2] 33)).alloc (.cells #[.bool false, .slice none 0 0, .slice none 0 0] 33)) (.cells #[.bool true, .slice none 0 0, .slice none 0 0] 33); simpa using this)
  have BX := Lib.hid (Bx.fresh (w := w) (base := w.heap.size + 4) RO.out (show Below w.heap.size w W by rw [hW]; exact bon (bon (bon (bda _ _) (bda _ _)) (bda _ _)) (bda _ _)) (heap_lt RO.out) ⟨by omega, by omega⟩)
  have HW := Lib.hid hW
  clear hW RO h1 h2 h3 h4 l1 l2 l3 l4 E1 Em E2 Q1 Q2
  go_enter Try.func32, Try.ntmps32
  go_upto_region 4 with (fail)
  rw [← HW.out]
  clear HW
  have BY := Lib.hid (BX.out.below (Below.refl _ _))
  obtain ⟨fo0, fo1, fo2⟩ := BX.out.f (Below.refl _ _)
  have fn := row_c RWa.out (i := 1) rfl
  go_wp2_with (at_builtin; refine wpList_append2 sv_one et_s rfl _ _ rfl (w.heap.size + 4) (.slice none 0 0) ([] : List (List UInt8)) ka Z1 A c (ka.length) rfl (by exact BY.out.o1) (by exact BY.out.old H1.out.1) rfl rfl EK.out.1 BN.out.1 (by exact BY.out.bz) ?_)
  clear fo0 fo1 fo2 fn
  intro A9 c9 x9 ho9 hg9 hn9
  obtain ⟨ABX1, hA2⟩ : ∃ z, A9 = z := ⟨_, rfl⟩
  obtain ⟨cBX1, hc2⟩ : ∃ z, c9 = z := ⟨_, rfl⟩
  rw [hA2, hc2] at ho9 hn9 ⊢
  have BN := Lib.hid (BY.out.push1 ho9 hg9 hn9)
  have N9 := Lib.hid (BY.out.row1 hg9 BY.out.lt.2 BY.out.row)
  obtain ⟨VBX1, hU⟩ : ∃ U : World, U = x9.setCell ⟨w.heap.size + 3, 1, none⟩ (.slice ABX1 Z1.length cBX1) := ⟨_, rfl⟩
  rw [← hU] at BN
  have RWaz := Lib.hid (show VBX1.heap[w.heap.size]? = some _ by rw [hU]; exact row_far (BY.out.row1 hg9 (by omega) RWa.out) (by omega) _)
  have RWbz := Lib.hid (show VBX1.heap[w.heap.size + 1]? = some _ by rw [hU]; exact row_far (BY.out.row1 hg9 (by omega) RWb.out) (by omega) _)
  have RRz := Lib.hid (show VBX1.heap[w.heap.size + 2]? = some _ by rw [hU]; exact row_far (BY.out.row1 hg9 (by omega) RR.out) (by omega) _)
  have f9 := row_c N9.out (i := 1) rfl
  have q9 := frozen_of_row _ _ 1 _ _ N9.out
  clear ho9 hg9 hn9 hA2 hc2 BY N9 BX RWa RWb RR
  have BX := BN
  clear BN
  have RWa := RWaz
  clear RWaz
  have RWb := RWbz
  clear RWbz
  have RR := RRz
  clear RRz
  have HU := Lib.hid hU
  clear hU
  go_upto_region 5 with (fail)
  rw [← HU.out]
  clear HU f9 q9
  have f0 := row_c RWa.out (i := 0) rfl
  go_upto_region 7 with (fail)
  clear f0
  have BY := Lib.hid (BX.out.below (Below.refl _ _))
  obtain ⟨fo0, fo1, fo2⟩ := BX.out.f (Below.refl _ _)
  have fn := row_c RWb.out (i := 1) rfl
  go_wp2_with (at_builtin; refine wpList_append2 sv_one et_s rfl _ _ rfl (w.heap.size + 4) (.slice ABX1 Z1.length cBX1) Z1 kb Z2 A2 c2 (kb.length) rfl (by exact BY.out.o1) (by exact BY.out.old H2.out.1) rfl rfl EK.out.2.2 BN.out.2.2.1 (by exact BY.out.bz) ?_)
  clear fo0 fo1 fo2 fn
  intro A9 c9 x9 ho9 hg9 hn9
  obtain ⟨ABX2, hA2⟩ : ∃ z, A9 = z := ⟨_, rfl⟩
  obtain ⟨cBX2, hc2⟩ : ∃ z, c9 = z := ⟨_, rfl⟩
  rw [hA2, hc2] at ho9 hn9 ⊢
  have BN := Lib.hid (BY.out.push1 ho9 hg9 hn9)
  have N9 := Lib.hid (BY.out.row1 hg9 BY.out.lt.2 BY.out.row)
  obtain ⟨VBX2, hU⟩ : ∃ U : World, U = x9.setCell ⟨w.heap.size + 3, 1, none⟩ (.slice ABX2 Z2.length cBX2) := ⟨_, rfl⟩
  rw [← hU] at BN
  have RWaz := Lib.hid (show VBX2.heap[w.heap.size]? = some _ by rw [hU]; exact row_far (BY.out.row1 hg9 (by omega) RWa.out) (by omega) _)
  have RWbz := Lib.hid (show VBX2.heap[w.heap.size + 1]? = some _ by rw [hU]; exact row_far (BY.out.row1 hg9 (by omega) RWb.out) (by omega) _)
  have RRz := Lib.hid (show VBX2.heap[w.heap.size + 2]? = some _ by rw [hU]; exact row_far (BY.out.row1 hg9 (by omega) RR.out) (by omega) _)
  have f9 := row_c N9.out (i := 1) rfl
  have q9 := frozen_of_row _ _ 1 _ _ N9.out
  clear ho9 hg9 hn9 hA2 hc2 BY N9 BX RWa RWb RR
  have BX := BN
  clear BN
  have RWa := RWaz
  clear RWaz
  have RWb := RWbz
  clear RWbz
  have RR := RRz
  clear RRz
  have HU := Lib.hid hU
  clear hU
  go_upto_region 8 with (fail)
  rw [← HU.out]
  clear HU f9 q9
  have BY := Lib.hid (BX.out.below (Below.refl _ _))
  obtain ⟨fo0, fo1, fo2⟩ := BX.out.f (Below.refl _ _)
  have fn := row_c RWa.out (i := 2) rfl
  go_wp2_with (at_builtin; refine wpList_append2 nv_one et_i rfl _ _ rfl (w.heap.size + 4) (.slice none 0 0) ([] : List Int) da X1 B d (da.length) rfl (by exact BY.out.o2) (by exact BY.out.old H1.out.2) rfl rfl EQ.out.1 BN.out.2.2.2.1 (by exact BY.out.bz) ?_)
  clear fo0 fo1 fo2 fn
  intro A9 c9 x9 ho9 hg9 hn9
  obtain ⟨ABX3, hA2⟩ : ∃ z, A9 = z := ⟨_, rfl⟩
  obtain ⟨cBX3, hc2⟩ : ∃ z, c9 = z := ⟨_, rfl⟩
  rw [hA2, hc2] at ho9 hn9 ⊢
  have BN := Lib.hid (BY.out.push2 ho9 hg9 hn9)
  have N9 := Lib.hid (BY.out.row2 hg9 BY.out.lt.2 BY.out.row)
  obtain ⟨VBX3, hU⟩ : ∃ U : World, U = x9.setCell ⟨w.heap.size + 3, 2, none⟩ (.slice ABX3 X1.length cBX3) := ⟨_, rfl⟩
  rw [← hU] at BN
  have RWaz := Lib.hid (show VBX3.heap[w.heap.size]? = some _ by rw [hU]; exact row_far (BY.out.row2 hg9 (by omega) RWa.out) (by omega) _)
  have RWbz := Lib.hid (show VBX3.heap[w.heap.size + 1]? = some _ by rw [hU]; exact row_far (BY.out.row2 hg9 (by omega) RWb.out) (by omega) _)
  have RRz := Lib.hid (show VBX3.heap[w.heap.size + 2]? = some _ by rw [hU]; exact row_far (BY.out.row2 hg9 (by omega) RR.out) (by omega) _)
  have f9 := row_c N9.out (i := 2) rfl
  have q9 := frozen_of_row _ _ 2 _ _ N9.out
  clear ho9 hg9 hn9 hA2 hc2 BY N9 BX RWa RWb RR
  have BX := BN
  clear BN
  have RWa := RWaz
  clear RWaz
  have RWb := RWbz
  clear RWbz
  have RR := RRz
  clear RRz
  have HU := Lib.hid hU
  clear hU
  go_upto_region 9 with (fail)
  rw [← HU.out]
  clear HU f9 q9
  have BY := Lib.hid (BX.out.below (Below.refl _ _))
  obtain ⟨fo0, fo1, fo2⟩ := BX.out.f (Below.refl _ _)
  have fn := row_c RWb.out (i := 2) rfl
  go_wp2_with (at_builtin; refine wpList_append2 nv_one et_i rfl _ _ rfl (w.heap.size + 4) (.slice ABX3 X1.length cBX3) X1 db X2 B2 d2 (db.length) rfl (by exact BY.out.o2) (by exact BY.out.old H2.out.2) rfl rfl EQ.out.2 BN.out.2.2.2.2 (by exact BY.out.bz) ?_)
  clear fo0 fo1 fo2 fn
  intro A9 c9 x9 ho9 hg9 hn9
  obtain ⟨ABX4, hA2⟩ : ∃ z, A9 = z := ⟨_, rfl⟩
  obtain ⟨cBX4, hc2⟩ : ∃ z, c9 = z := ⟨_, rfl⟩
  rw [hA2, hc2] at ho9 hn9 ⊢
  have BN := Lib.hid (BY.out.push2 ho9 hg9 hn9)
  have N9 := Lib.hid (BY.out.row2 hg9 BY.out.lt.2 BY.out.row)
  obtain ⟨VBX4, hU⟩ : ∃ U : World, U = x9.setCell ⟨w.heap.size + 3, 2, none⟩ (.slice ABX4 X2.length cBX4) := ⟨_, rfl⟩
  rw [← hU] at BN
  have RWaz := Lib.hid (show VBX4.heap[w.heap.size]? = some _ by rw [hU]; exact row_far (BY.out.row2 hg9 (by omega) RWa.out) (by omega) _)
  have RWbz := Lib.hid (show VBX4.heap[w.heap.size + 1]? = some _ by rw [hU]; exact row_far (BY.out.row2 hg9 (by omega) RWb.out) (by omega) _)
  have RRz := Lib.hid (show VBX4.heap[w.heap.size + 2]? = some _ by rw [hU]; exact row_far (BY.out.row2 hg9 (by omega) RR.out) (by omega) _)
  have f9 := row_c N9.out (i := 2) rfl
  have q9 := frozen_of_row _ _ 2 _ _ N9.out
  clear ho9 hg9 hn9 hA2 hc2 BY N9 BX RWa RWb RR
  have BX := BN
  clear BN
  have RWa := RWaz
  clear RWaz
  have RWb := RWbz
  clear RWbz
  have RR := RRz
  clear RRz
  have HU := Lib.hid hU
  clear hU
  go_upto_region 10 with (fail)
  rw [← HU.out]
  clear HU f9 q9
  obtain ⟨fo0, fo1, fo2⟩ := BX.out.f (Below.refl _ _)
  go_wp2_with fail
  refine (rsize_w true ABX2 cBX2 Z2 ABX4 cBX4 X2 _ BX.out.rl.1 (by have := BN.out; omega) (by have := BN.out; omega)).mono ?_
  rintro e x ⟨rfl, hx⟩
  have BY := Lib.hid (BX.out.below hx)
  have RRx := Lib.hid (row_on RR.out hx)
  clear BX RR fo0 fo1 fo2 hx
  have BX := BY
  have RR := RRx
  clear BY RRx
  generalize hSN : wz Z2 X2 = SN at *
  have HSN := Lib.hid hSN
  clear hSN
  obtain ⟨fo0, fo1, fo2⟩ := BX.out.f (Below.refl _ _)
  have p0 := row_c RR.out (i := 0) rfl
  have p1 := row_c RR.out (i := 1) rfl
  have p2 := row_c RR.out (i := 2) rfl
  have y0 := frozen_of_row _ _ 0 _ _ RR.out
  have y1 := frozen_of_row _ _ 1 _ _ RR.out
  have y2 := frozen_of_row _ _ 2 _ _ RR.out
  by_cases hbig : SN ≤ 120
  · have e3 : decide (120 < SN) = false := decide_eq_false (by omega)
    have HBG := Lib.hid (show fitsB Z2 X2 = true by unfold fitsB; rw [HSN.out]; exact decide_eq_true hbig)
    clear hbig
    go_wp2
    refine bodyPost_ret (v := .tuple #[.agg #[.bool true, .slice ABX2 Z2.length cBX2, .slice ABX4 X2.length cBX4], .bool true]) (by simp [results, Try.results32, go_sem, p0, p1, p2]) rfl ⟨fun _ => ⟨ABX2, cBX2, ABX4, cBX4, rfl, ?_, ?_⟩, fun h => (by rw [HBG.out] at h; cases h), ?_⟩
    · exact ((BX.out.rl.1.set BX.out.rl.2.2.1 (by omega) _ _).set BX.out.rl.2.2.1 (by omega) _ _).set BX.out.rl.2.2.1 (by omega) _ _
    · exact ((BX.out.rl.2.1.set BX.out.rl.2.2.2 (by omega) _ _).set BX.out.rl.2.2.2 (by omega) _ _).set BX.out.rl.2.2.2 (by omega) _ _
    · exact ((BX.out.kb.setCell (by first | (simp; done) | (simp; omega)) _).setCell (by first | (simp; done) | (simp; omega)) _).setCell (by first | (simp; done) | (simp; omega)) _
  · have e3 : decide (120 < SN) = true := decide_eq_true (by omega)
    have HBG := Lib.hid (show fitsB Z2 X2 = false by unfold fitsB; rw [HSN.out]; exact decide_eq_false hbig)
    clear hbig
    go_wp2
    refine bodyPost_ret (v := .tuple #[.agg #[.bool false, .slice none 0 0, .slice none 0 0], .bool false]) (by simp [results, Try.results32, go_sem, p0, p1, p2]) rfl ⟨fun h => (by rw [HBG.out] at h; cases h), fun _ => rfl, ?_⟩
    exact ((BX.out.kb.setCell (by first | (simp; done) | (simp; omega)) _).setCell (by first | (simp; done) | (simp; omega)) _).setCell (by first | (simp; done) | (simp; omega)) _
set_option maxHeartbeats 4000000 in
set_option maxRecDepth 100000 in
theorem rjoin_w (lf : Bool) (A A2 B B2 : Option Addr) (c c2 d d2 : Nat) (ka kb : List (List UInt8)) (da db : List Int) (mid : List UInt8) (w : World) (h1 : Rl sv w A c ka) (h2 : Rl nv w B d da) (h3 : Rl sv w A2 c2 kb) (h4 : Rl nv w B2 d2 db)
    (l1 : ka.length ≤ 1000000) (l2 : da.length ≤ 1000000) (l3 : kb.length ≤ 1000000) (l4 : db.length ≤ 1000000) :
    Calls Try.prog 32 #[.agg #[.bool lf, .slice A ka.length c, .slice B da.length d], .string ⟨mid.toArray⟩, .agg #[.bool lf, .slice A2 kb.length c2, .slice B2 db.length d2]] w fun e w' => (fitsB (jk lf ka mid kb) (da ++ db) = true → ∃ A' c' B' d', e = .returned (.tuple #[.agg #[.bool lf, .slice A' (jk lf ka mid kb).length c', .slice B' (da ++ db).length d'], .bool true]) ∧ Rl sv w' A' c' (jk lf ka mid kb) ∧ Rl nv w' B' d' (da ++ db)) ∧ (fitsB (jk lf ka mid kb) (da ++ db) = false → e = .returned (.tuple #[.agg #[.bool false, .slice none 0 0, .slice none 0 0], .bool false])) ∧ Below w.heap.size w w' := by
  unfold jk
  cases lf
  · have := rjoin_f A A2 B B2 c c2 d d2 ka kb da db mid w h1 h2 h3 h4 l1 l2 l3 l4 _ _ _ _ _ rfl rfl rfl rfl rfl
    simpa using this
  · have := rjoin_t A A2 B B2 c c2 d d2 ka kb da db mid w h1 h2 h3 h4 l1 l2 l3 l4 _ _ _ _ _ rfl rfl rfl rfl rfl
    simpa using this
set_option maxHeartbeats 4000000 in
set_option maxRecDepth 100000 in
theorem rsplit_few (lf : Bool) (A : Option Addr) (c : Nat) (ks : List (List UInt8)) (B : Option Addr) (d : Nat) (ds : List Int) (w : World) (h4 : ks.length < 4) :
    Calls Try.prog 31 #[.agg #[.bool lf, .slice A ks.length c, .slice B ds.length d]] w fun e w' => e = .returned (.tuple #[.agg #[.bool false, .slice none 0 0, .slice none 0 0], .string ⟨#[]⟩, .agg #[.bool false, .slice none 0 0, .slice none 0 0], .bool false]) ∧ Below w.heap.size w w' := by
  have e1 : decide (ks.length < 4) = true := decide_eq_true h4
  have e2 : decide ((ks.length : Int) < 4) = true := decide_eq_true (by omega)
  clear h4
  go_enter Try.func31, Try.ntmps31
  go_wp2
  refine bodyPost_ret (v := .tuple #[.agg #[.bool false, .slice none 0 0, .slice none 0 0], .string ⟨#[]⟩, .agg #[.bool false, .slice none 0 0, .slice none 0 0], .bool false]) (by simp [results, Try.results31, go_sem]) rfl ⟨rfl, bon (bon (bda _ _) (bda _ _)) (bda _ _)⟩
set_option maxHeartbeats 4000000 in
set_option maxRecDepth 100000 in
theorem rsplit_f (A : Option Addr) (c : Nat) (ks : List (List UInt8)) (B : Option Addr) (d : Nat) (ds : List Int) (mid : List UInt8) (w : World) (h : Rl sv w A c ks) (h2 : Rl nv w B d ds) (hl : ks.length ≤ 3999990) (hsd : ds.length = ks.length + 1) (h4 : 4 ≤ ks.length)
    (n0 n1 : Nat) (hn0 : ks.length / 2 = n0) (hn1 : n0 + 1 = n1) (hm : ks[n0]? = some mid) (y1 y2 Z1 Z2 : List (List UInt8)) (u1 u2 X1 X2 : List Int)
    (e1 : ks.take n0 = y1) (e2 : ks.drop n1 = y2) (q1 : ds.take n1 = u1) (q2 : ds.drop n1 = u2) (E1 : [] ++ y1 = Z1) (E2 : [] ++ y2 = Z2) (Q1 : [] ++ u1 = X1) (Q2 : [] ++ u2 = X2) :
    Calls Try.prog 31 #[.agg #[.bool false, .slice A ks.length c, .slice B ds.length d]] w fun e w' => ∃ A' c' B' d' A2 c2 B2 d2, e = .returned (.tuple #[.agg #[.bool false, .slice A' Z1.length c', .slice B' X1.length d'], .string ⟨mid.toArray⟩, .agg #[.bool false, .slice A2 Z2.length c2, .slice B2 X2.length d2], .bool true]) ∧ Rl sv w' A' c' Z1 ∧ Rl nv w' B' d' X1 ∧ Rl sv w' A2 c2 Z2 ∧ Rl nv w' B2 d2 X2 ∧ Below w.heap.size w w' := by
  obtain ⟨Ka, ca, hka, rka⟩ := cut_to et_s (g := sv) A c ks n0 (by omega) h.1
  obtain ⟨Da, da, hda, rda⟩ := cut_to et_i (g := nv) B d ds n1 (by omega) h2.1
  obtain ⟨Kb, cb, hkb, rkb⟩ := cut_from et_s (g := sv) A c ks n1 (by omega) h.1
  obtain ⟨Db, db, hdb, rdb⟩ := cut_from et_i (g := nv) B d ds n1 (by omega) h2.1
  rw [e1] at rka
  rw [q1] at rda
  rw [e2] at rkb
  rw [q2] at rdb
  have L1 := Lib.hid (show n0 = y1.length by rw [← e1, List.length_take]; omega)
  have L2 := Lib.hid (show n1 = u1.length by rw [← q1, List.length_take]; omega)
  have L3 := Lib.hid (show ks.length - n1 = y2.length by rw [← e2, List.length_drop])
  have L4 := Lib.hid (show ds.length - n1 = u2.length by rw [← q2, List.length_drop])
  have EK := Lib.hid (And.intro E1 E2)
  have EQ := Lib.hid (And.intro Q1 Q2)
  have BN := Lib.hid (show Z1.length ≤ 4000000 ∧ Z2.length ≤ 4000000 ∧ X1.length ≤ 4000000 ∧ X2.length ≤ 4000000 by
    have h1 := L1.out; have h2 := L2.out; have h3 := L3.out; have h4 := L4.out
    rw [← E2, ← E1, ← Q2, ← Q1]
    simp only [List.length_append, List.length_nil]
    omega)
  have RKA := Lib.hid (fun V (hV : Below w.heap.size w V) => rka V (h.below hV))
  have RDA := Lib.hid (fun V (hV : Below w.heap.size w V) => rda V (h2.below hV))
  have RKB := Lib.hid (fun V (hV : Below w.heap.size w V) => rkb V (h.below hV))
  have RDB := Lib.hid (fun V (hV : Below w.heap.size w V) => rdb V (h2.below hV))
  obtain ⟨bm, om, hA, hbm, hcm⟩ := h.cell hm
  have MM := Lib.hid (And.intro hbm hcm)
  have w1 : IntKind.i64.wrap ((n0 : Int) + 1) = (n1 : Int) := by rw [IntWalk.i64_in _ (by omega)]; omega
  have g1 : decide (ks.length < 4) = false := decide_eq_false (by omega)
  have g2 : decide ((ks.length : Int) < 4) = false := decide_eq_false (by omega)
  have g3 : (ks.length : Int).tdiv 2 = (n0 : Int) := by rw [Int.tdiv_eq_ediv_of_nonneg (by omega)]; omega
  have g4 : (ks.length : Int) / 2 = (n0 : Int) := by omega
  have g5 : wrap64 (n0 : Int) = (n0 : Int) := IntWalk.wrap64_in _ (by omega)
  have k1 : (n0 : Int) < (ks.length : Int) := by omega
  have k0 : (0 : Int) ≤ (n0 : Int) := by omega
  have K01 := Lib.hid (And.intro k0 k1)
  subst hA
  obtain ⟨W, hW⟩ : ∃ W : World, W = ((((w.alloc (.cells #[.bool false, .slice (some ⟨bm, om, none⟩) ks.length c, .slice B ds.length d] 33)).alloc (.cells #[.bool false, .slice none 0 0, .slice none 0 0] 33)).alloc (.cells #[.bool false, .slice none 0 0, .slice none 0 0] 33)).alloc (.cells #[.bool false, .slice none 0 0, .slice none 0 0] 33)).alloc (.cells #[.bool false, .slice none 0 0, .slice none 0 0] 33) := ⟨_, rfl⟩
  have RW := Lib.hid (show W.heap[w.heap.size]? = some (.cells #[.bool false, .slice (some ⟨bm, om, none⟩) ks.length c, .slice B ds.length d] 33 (0, 0)) by rw [hW]; have := row_on (row_on (row_on (row_on (heap_alloc_new w (.cells #[.bool false, .slice (some ⟨bm, om, none⟩) ks.length c, .slice B ds.length d] 33)) (bda _ (.cells #[.bool false, .slice none 0 0, .slice none 0 0] 33))) (bda _ (.cells #[.bool false, .slice none 0 0, .slice none 0 0] 33))) (bda _ (.cells #[.bool false, .slice none 0 0, .slice none 0 0] 33))) (bda _ (.cells #[.bool false, .slice none 0 0, .slice none 0 0] 33)); simpa using this)
  have RP := Lib.hid (show W.heap[w.heap.size + 1]? = some (.cells #[.bool false, .slice none 0 0, .slice none 0 0] 33 (0, 0)) by rw [hW]; have := row_on (row_on (row_on (heap_alloc_new (w.alloc (.cells #[.bool false, .slice (some ⟨bm, om, none⟩) ks.length c, .slice B ds.length d] 33)) (.cells #[.bool false, .slice none 0 0, .slice none 0 0] 33)) (bda _ (.cells #[.bool false, .slice none 0 0, .slice none 0 0] 33))) (bda _ (.cells #[.bool false, .slice none 0 0, .slice none 0 0] 33))) (bda _ (.cells #[.bool false, .slice none 0 0, .slice none 0 0] 33)); simpa using this)
  have RQ := Lib.hid (show W.heap[w.heap.size + 2]? = some (.cells #[.bool false, .slice none 0 0, .slice none 0 0] 33 (0, 0)) by rw [hW]; have := row_on (row_on (heap_alloc_new ((w.alloc (.cells #[.bool false, .slice (some ⟨bm, om, none⟩) ks.length c, .slice B ds.length d] 33)).alloc (.cells #[.bool false, .slice none 0 0, .slice none 0 0] 33)) (.cells #[.bool false, .slice none 0 0, .slice none 0 0] 33)) (bda _ (.cells #[.bool false, .slice none 0 0, .slice none 0 0] 33))) (bda _ (.cells #[.bool false, .slice none 0 0, .slice none 0 0] 33)); simpa using this)
  have RA := Lib.hid (show W.heap[w.heap.size + 3]? = some (.cells #[.bool false, .slice none 0 0, .slice none 0 0] 33 (0, 0)) by rw [hW]; have := row_on (heap_alloc_new (((w.alloc (.cells #[.bool false, .slice (some ⟨bm, om, none⟩) ks.length c, .slice B ds.length d] 33)).alloc (.cells #[.bool false, .slice none 0 0, .slice none 0 0] 33)).alloc (.cells #[.bool false, .slice none 0 0, .slice none 0 0] 33)) (.cells #[.bool false, .slice none 0 0, .slice none 0 0] 33)) (bda _ (.cells #[.bool false, .slice none 0 0, .slice none 0 0] 33)); simpa using this)
  have RB := Lib.hid (show W.heap[w.heap.size + 4]? = some (.cells #[.bool false, .slice none 0 0, .slice none 0 0] 33 (0, 0)) by rw [hW]; have := heap_alloc_new ((((w.alloc (.cells #[.bool false, .slice (some ⟨bm, om, none⟩) ks.length c, .slice B ds.length d] 33)).alloc (.cells #[.bool false, .slice none 0 0, .slice none 0 0] 33)).alloc (.cells #[.bool false, .slice none 0 0, .slice none 0 0] 33)).alloc (.cells #[.bool false, .slice none 0 0, .slice none 0 0] 33)) (.cells #[.bool false, .slice none 0 0, .slice none 0 0] 33); simpa using this)
  have BX := Lib.hid (Bx.fresh (w := w) (base := w.heap.size + 5) RA.out (show Below w.heap.size w W by rw [hW]; exact bon (bon (bon (bon (bda _ _) (bda _ _)) (bda _ _)) (bda _ _)) (bda _ _)) (heap_lt RB.out) ⟨by omega, by omega⟩)
  have HW := Lib.hid hW
  clear hW RA h h2 hl hsd h4 hn0 hn1 hm e1 e2 q1 q2 E1 E2 Q1 Q2 rka rda rkb rdb hbm hcm k0 k1
  go_enter Try.func31, Try.ntmps31
  go_upto_region 6 with (fail)
  rw [← HW.out]
  try rw [g5]
  try rw [g5]
  clear HW g1 g2 g3 g4 g5
  refine wp_operands (W := W) rfl 6 [25, 26, 27, 28, 29, 30] (fun i u x => match i with | 0 => u = .pointer (some ⟨w.heap.size + 3, 1, none⟩) | 1 => u = .slice none 0 0 | 2 => u = .pointer (some ⟨w.heap.size, 1, none⟩) | 3 => u = .slice (some ⟨bm, om, none⟩) ks.length c | 4 => u = .int .i64 (n0 : Int) | 5 => u = .slice Ka (n0) ca | _ => True) (fun _ => false)
    (by decide) rfl (by kernel_rfl) (by kernel_rfl) (by decide) (by kernel_rfl) ?_ (fun _ _ _ h => by cases h) ?_ ?_
  · intro i u x x' hi hR hb'
    have hi' : i = 0 ∨ i = 1 ∨ i = 2 ∨ i = 3 ∨ i = 4 ∨ i = 5 := by omega
    rcases hi' with rfl | rfl | rfl | rfl | rfl | rfl
    · exact hR
    · exact hR
    · exact hR
    · exact hR
    · exact hR
    · exact hR
  · intro i av x K hi hF hb' hw hK
    have hi' : i = 0 ∨ i = 1 ∨ i = 2 ∨ i = 3 ∨ i = 4 ∨ i = 5 := by omega
    rcases hi' with rfl | rfl | rfl | rfl | rfl | rfl
    · simp only [wpOp, List.getElem?_toArray, List.getElem?_cons_zero, Region.wanted, if_true]
      refine Or.inl ?_
      have e0 : av.tmps.getD 7 undef = .pointer (some ⟨w.heap.size + 3, 0, none⟩) := hF.2.2 7 (by decide)
      have e0e : av.eval (.tmp 7) = .pointer (some ⟨w.heap.size + 3, 0, none⟩) := e0
      have e0g : av.tmps[7]?.getD undef = .pointer (some ⟨w.heap.size + 3, 0, none⟩) := by have := e0; simp only [Array.getD_eq_getD_getElem?] at this; exact this
      clear hw hF
      simp only [Oper.wp, execOp]
      try simp only [e0e]
      go_simp
      exact hK _ x (by first | rfl | (simp only [Nat.add_zero]; done) | (congr 1; omega)) (Below.refl _ _) (fun h => by cases h)
    · simp only [wpOp, List.getElem?_toArray, List.getElem?_cons_succ, List.getElem?_cons_zero, Region.wanted, if_true]
      refine Or.inl ?_
      have e0 : av.tmps.getD 25 undef = .pointer (some ⟨w.heap.size + 3, 1, none⟩) := (hw 0 (by kernel_rfl))
      have e0e : av.eval (.tmp 25) = .pointer (some ⟨w.heap.size + 3, 1, none⟩) := e0
      have e0g : av.tmps[25]?.getD undef = .pointer (some ⟨w.heap.size + 3, 1, none⟩) := by have := e0; simp only [Array.getD_eq_getD_getElem?] at this; exact this
      obtain ⟨fo0, fo1, fo2⟩ := BX.out.f hb'
      clear hw hF
      simp only [Oper.wp, execOp]
      try simp only [e0e]
      go_simp
      exact hK _ x (by first | rfl | (simp only [Nat.add_zero]; done) | (congr 1; omega)) (Below.refl _ _) (fun h => by cases h)
    · simp only [wpOp, List.getElem?_toArray, List.getElem?_cons_succ, List.getElem?_cons_zero, Region.wanted, if_true]
      refine Or.inl ?_
      have e0 : av.tmps.getD 1 undef = .pointer (some ⟨w.heap.size, 0, none⟩) := hF.2.2 1 (by decide)
      have e0e : av.eval (.tmp 1) = .pointer (some ⟨w.heap.size, 0, none⟩) := e0
      have e0g : av.tmps[1]?.getD undef = .pointer (some ⟨w.heap.size, 0, none⟩) := by have := e0; simp only [Array.getD_eq_getD_getElem?] at this; exact this
      clear hw hF
      simp only [Oper.wp, execOp]
      try simp only [e0e]
      go_simp
      exact hK _ x (by first | rfl | (simp only [Nat.add_zero]; done) | (congr 1; omega)) (Below.refl _ _) (fun h => by cases h)
    · simp only [wpOp, List.getElem?_toArray, List.getElem?_cons_succ, List.getElem?_cons_zero, Region.wanted, if_true]
      refine Or.inl ?_
      have e0 : av.tmps.getD 27 undef = .pointer (some ⟨w.heap.size, 1, none⟩) := (hw 2 (by kernel_rfl))
      have e0e : av.eval (.tmp 27) = .pointer (some ⟨w.heap.size, 1, none⟩) := e0
      have e0g : av.tmps[27]?.getD undef = .pointer (some ⟨w.heap.size, 1, none⟩) := by have := e0; simp only [Array.getD_eq_getD_getElem?] at this; exact this
      have fn := row_c (row_on RW.out hb') (i := 1) rfl
      clear hw hF
      simp only [Oper.wp, execOp]
      try simp only [e0e]
      go_simp
      exact hK _ x (by first | rfl | (simp only [Nat.add_zero]; done) | (congr 1; omega)) (Below.refl _ _) (fun h => by cases h)
    · simp only [wpOp, List.getElem?_toArray, List.getElem?_cons_succ, List.getElem?_cons_zero, Region.wanted, if_true]
      refine Or.inl ?_
      have e0 : av.tmps.getD 6 undef = .int .i64 (n0 : Int) := hF.2.2 6 (by decide)
      have e0e : av.eval (.tmp 6) = .int .i64 (n0 : Int) := e0
      have e0g : av.tmps[6]?.getD undef = .int .i64 (n0 : Int) := by have := e0; simp only [Array.getD_eq_getD_getElem?] at this; exact this
      clear hw hF
      simp only [Oper.wp, execOp]
      try simp only [e0e]
      go_simp
      exact hK _ x (by first | rfl | (simp only [Nat.add_zero]; done) | (congr 1; omega)) (Below.refl _ _) (fun h => by cases h)
    · simp only [wpOp, List.getElem?_toArray, List.getElem?_cons_succ, List.getElem?_cons_zero, Region.wanted, if_true]
      refine Or.inl ?_
      have e0 : av.tmps.getD 28 undef = .slice (some ⟨bm, om, none⟩) ks.length c := (hw 3 (by kernel_rfl))
      have e0e : av.eval (.tmp 28) = .slice (some ⟨bm, om, none⟩) ks.length c := e0
      have e0g : av.tmps[28]?.getD undef = .slice (some ⟨bm, om, none⟩) ks.length c := by have := e0; simp only [Array.getD_eq_getD_getElem?] at this; exact this
      have e1 : av.tmps.getD 29 undef = .int .i64 (n0 : Int) := (hw 4 (by kernel_rfl))
      have e1e : av.eval (.tmp 29) = .int .i64 (n0 : Int) := e1
      have e1g : av.tmps[29]?.getD undef = .int .i64 (n0 : Int) := by have := e1; simp only [Array.getD_eq_getD_getElem?] at this; exact this
      clear hw hF
      simp only [Oper.wp, execOp]
      try simp only [e0e, e1e]
      go_simp
      exact hK _ x (by first | rfl | (simp only [Nat.add_zero]; done) | (congr 1; omega)) (Below.refl _ _) (fun h => by cases h)
  intro av x hF hb' hR _
  have e0 : av.tmps.getD 25 undef = .pointer (some ⟨w.heap.size + 3, 1, none⟩) := hR 0 (by decide)
  have e1 : av.tmps.getD 26 undef = .slice none 0 0 := hR 1 (by decide)
  have e2 : av.tmps.getD 27 undef = .pointer (some ⟨w.heap.size, 1, none⟩) := hR 2 (by decide)
  have e3 : av.tmps.getD 28 undef = .slice (some ⟨bm, om, none⟩) ks.length c := hR 3 (by decide)
  have e4 : av.tmps.getD 29 undef = .int .i64 (n0 : Int) := hR 4 (by decide)
  have e5 : av.tmps.getD 30 undef = .slice Ka (n0) ca := hR 5 (by decide)
  rw [hF.fold (by kernel_rfl)]
  simp only [List.foldl_cons, List.foldl_nil, e0, e1, e2, e3, e4, e5]
  simp only [Act.put, List.setIfInBounds_toArray, List.set_cons_zero, List.set_cons_succ]
  change wpOps _ _ _ [6, 7, 8] _ _
  simp only [wpOps_cons]
  clear e0 e1 e2 e3 e4 e5 hR hF
  have BY := Lib.hid (BX.out.below hb')
  have RW := Lib.hid (row_on RW.out hb')
  have RP := Lib.hid (row_on RP.out hb')
  have RQ := Lib.hid (row_on RQ.out hb')
  have RB := Lib.hid (row_on RB.out hb')
  clear hb'
  simp only [wpOp, List.getElem?_toArray, List.getElem?_cons_succ, List.getElem?_cons_zero, Region.wanted, if_true]
  refine Or.inl ?_
  refine wp_append2 sv_one et_s (.tmp 26) (.tmp 30) rfl (w.heap.size + 5) (.slice none 0 0) ([] : List (List UInt8)) y1 Z1 Ka ca (n0) rfl BY.out.o1 (RKA.out _ BY.out.kb) L1.out rfl EK.out.1 BN.out.1 BY.out.bz ?_
  intro A9 c9 x9 ho9 hg9 hn9
  obtain ⟨ABX1, hA2⟩ : ∃ z, A9 = z := ⟨_, rfl⟩
  obtain ⟨cBX1, hc2⟩ : ∃ z, c9 = z := ⟨_, rfl⟩
  rw [hA2, hc2] at ho9 hn9 ⊢
  have BN := Lib.hid (BY.out.push1 ho9 hg9 hn9)
  have N9 := Lib.hid (BY.out.row1 hg9 BY.out.lt.2 BY.out.row)
  obtain ⟨VBX1, hU⟩ : ∃ U : World, U = x9.setCell ⟨w.heap.size + 3, 1, none⟩ (.slice ABX1 Z1.length cBX1) := ⟨_, rfl⟩
  rw [← hU] at BN
  have RWz := Lib.hid (show VBX1.heap[w.heap.size]? = some _ by rw [hU]; exact row_far (BY.out.row1 hg9 (by omega) RW.out) (by omega) _)
  have RPz := Lib.hid (show VBX1.heap[w.heap.size + 1]? = some _ by rw [hU]; exact row_far (BY.out.row1 hg9 (by omega) RP.out) (by omega) _)
  have RQz := Lib.hid (show VBX1.heap[w.heap.size + 2]? = some _ by rw [hU]; exact row_far (BY.out.row1 hg9 (by omega) RQ.out) (by omega) _)
  have RBz := Lib.hid (show VBX1.heap[w.heap.size + 4]? = some _ by rw [hU]; exact row_far (BY.out.row1 hg9 (by omega) RB.out) (by omega) _)
  have f9 := row_c N9.out (i := 1) rfl
  have q9 := frozen_of_row _ _ 1 _ _ N9.out
  clear ho9 hg9 hn9 hA2 hc2 BY N9 BX RW RP RQ RB
  have BX := BN
  clear BN
  have RW := RWz
  clear RWz
  have RP := RPz
  clear RPz
  have RQ := RQz
  clear RQz
  have RB := RBz
  clear RBz
  go_simp
  try rw [wpOps_cons]
  simp only [wpOp, List.getElem?_toArray, List.getElem?_cons_succ, List.getElem?_cons_zero, Region.wanted, if_true]
  refine Or.inl ?_
  simp only [Oper.wp, execOp]
  go_simp
  try rw [wpOps_cons]
  simp only [wpOp, List.getElem?_toArray, List.getElem?_cons_succ, List.getElem?_cons_zero, Region.wanted, if_true]
  refine Or.inl ?_
  simp only [Oper.wp, execOp]
  go_simp
  try simp only [wpOps]
  rw [← hU]
  clear hU f9 q9
  have f0 := row_c RW.out (i := 0) rfl
  go_upto_region 12 with (fail)
  clear f0
  refine wp_operands (W := VBX1) rfl 7 [66, 67, 68, 69, 70, 71, 72] (fun i u x => match i with | 0 => u = .pointer (some ⟨w.heap.size + 3, 2, none⟩) | 1 => u = .slice none 0 0 | 2 => u = .pointer (some ⟨w.heap.size, 2, none⟩) | 3 => u = .slice B ds.length d | 4 => u = .int .i64 (n0 : Int) | 5 => u = .int .i64 (n1 : Int) | 6 => u = .slice Da (n1) da | _ => True) (fun _ => false)
    (by decide) rfl (by kernel_rfl) (by kernel_rfl) (by decide) (by kernel_rfl) ?_ (fun _ _ _ h => by cases h) ?_ ?_
  · intro i u x x' hi hR hb'
    have hi' : i = 0 ∨ i = 1 ∨ i = 2 ∨ i = 3 ∨ i = 4 ∨ i = 5 ∨ i = 6 := by omega
    rcases hi' with rfl | rfl | rfl | rfl | rfl | rfl | rfl
    · exact hR
    · exact hR
    · exact hR
    · exact hR
    · exact hR
    · exact hR
    · exact hR
  · intro i av x K hi hF hb' hw hK
    have hi' : i = 0 ∨ i = 1 ∨ i = 2 ∨ i = 3 ∨ i = 4 ∨ i = 5 ∨ i = 6 := by omega
    rcases hi' with rfl | rfl | rfl | rfl | rfl | rfl | rfl
    · simp only [wpOp, List.getElem?_toArray, List.getElem?_cons_zero, Region.wanted, if_true]
      refine Or.inl ?_
      have e0 : av.tmps.getD 7 undef = .pointer (some ⟨w.heap.size + 3, 0, none⟩) := hF.2.2 7 (by decide)
      have e0e : av.eval (.tmp 7) = .pointer (some ⟨w.heap.size + 3, 0, none⟩) := e0
      have e0g : av.tmps[7]?.getD undef = .pointer (some ⟨w.heap.size + 3, 0, none⟩) := by have := e0; simp only [Array.getD_eq_getD_getElem?] at this; exact this
      clear hw hF
      simp only [Oper.wp, execOp]
      try simp only [e0e]
      go_simp
      exact hK _ x (by first | rfl | (simp only [Nat.add_zero]; done) | (congr 1; omega)) (Below.refl _ _) (fun h => by cases h)
    · simp only [wpOp, List.getElem?_toArray, List.getElem?_cons_succ, List.getElem?_cons_zero, Region.wanted, if_true]
      refine Or.inl ?_
      have e0 : av.tmps.getD 66 undef = .pointer (some ⟨w.heap.size + 3, 2, none⟩) := (hw 0 (by kernel_rfl))
      have e0e : av.eval (.tmp 66) = .pointer (some ⟨w.heap.size + 3, 2, none⟩) := e0
      have e0g : av.tmps[66]?.getD undef = .pointer (some ⟨w.heap.size + 3, 2, none⟩) := by have := e0; simp only [Array.getD_eq_getD_getElem?] at this; exact this
      obtain ⟨fo0, fo1, fo2⟩ := BX.out.f hb'
      clear hw hF
      simp only [Oper.wp, execOp]
      try simp only [e0e]
      go_simp
      exact hK _ x (by first | rfl | (simp only [Nat.add_zero]; done) | (congr 1; omega)) (Below.refl _ _) (fun h => by cases h)
    · simp only [wpOp, List.getElem?_toArray, List.getElem?_cons_succ, List.getElem?_cons_zero, Region.wanted, if_true]
      refine Or.inl ?_
      have e0 : av.tmps.getD 1 undef = .pointer (some ⟨w.heap.size, 0, none⟩) := hF.2.2 1 (by decide)
      have e0e : av.eval (.tmp 1) = .pointer (some ⟨w.heap.size, 0, none⟩) := e0
      have e0g : av.tmps[1]?.getD undef = .pointer (some ⟨w.heap.size, 0, none⟩) := by have := e0; simp only [Array.getD_eq_getD_getElem?] at this; exact this
      clear hw hF
      simp only [Oper.wp, execOp]
      try simp only [e0e]
      go_simp
      exact hK _ x (by first | rfl | (simp only [Nat.add_zero]; done) | (congr 1; omega)) (Below.refl _ _) (fun h => by cases h)
    · simp only [wpOp, List.getElem?_toArray, List.getElem?_cons_succ, List.getElem?_cons_zero, Region.wanted, if_true]
      refine Or.inl ?_
      have e0 : av.tmps.getD 68 undef = .pointer (some ⟨w.heap.size, 2, none⟩) := (hw 2 (by kernel_rfl))
      have e0e : av.eval (.tmp 68) = .pointer (some ⟨w.heap.size, 2, none⟩) := e0
      have e0g : av.tmps[68]?.getD undef = .pointer (some ⟨w.heap.size, 2, none⟩) := by have := e0; simp only [Array.getD_eq_getD_getElem?] at this; exact this
      have fn := row_c (row_on RW.out hb') (i := 2) rfl
      clear hw hF
      simp only [Oper.wp, execOp]
      try simp only [e0e]
      go_simp
      exact hK _ x (by first | rfl | (simp only [Nat.add_zero]; done) | (congr 1; omega)) (Below.refl _ _) (fun h => by cases h)
    · simp only [wpOp, List.getElem?_toArray, List.getElem?_cons_succ, List.getElem?_cons_zero, Region.wanted, if_true]
      refine Or.inl ?_
      have e0 : av.tmps.getD 6 undef = .int .i64 (n0 : Int) := hF.2.2 6 (by decide)
      have e0e : av.eval (.tmp 6) = .int .i64 (n0 : Int) := e0
      have e0g : av.tmps[6]?.getD undef = .int .i64 (n0 : Int) := by have := e0; simp only [Array.getD_eq_getD_getElem?] at this; exact this
      clear hw hF
      simp only [Oper.wp, execOp]
      try simp only [e0e]
      go_simp
      exact hK _ x (by first | rfl | (simp only [Nat.add_zero]; done) | (congr 1; omega)) (Below.refl _ _) (fun h => by cases h)
    · simp only [wpOp, List.getElem?_toArray, List.getElem?_cons_succ, List.getElem?_cons_zero, Region.wanted, if_true]
      refine Or.inl ?_
      have e0 : av.tmps.getD 70 undef = .int .i64 (n0 : Int) := (hw 4 (by kernel_rfl))
      have e0e : av.eval (.tmp 70) = .int .i64 (n0 : Int) := e0
      have e0g : av.tmps[70]?.getD undef = .int .i64 (n0 : Int) := by have := e0; simp only [Array.getD_eq_getD_getElem?] at this; exact this
      clear hw hF
      simp only [Oper.wp, execOp]
      try simp only [e0e]
      go_simp
      exact hK _ x (by first | rfl | (simp only [Nat.add_zero]; done) | (congr 1; omega)) (Below.refl _ _) (fun h => by cases h)
    · simp only [wpOp, List.getElem?_toArray, List.getElem?_cons_succ, List.getElem?_cons_zero, Region.wanted, if_true]
      refine Or.inl ?_
      have e0 : av.tmps.getD 69 undef = .slice B ds.length d := (hw 3 (by kernel_rfl))
      have e0e : av.eval (.tmp 69) = .slice B ds.length d := e0
      have e0g : av.tmps[69]?.getD undef = .slice B ds.length d := by have := e0; simp only [Array.getD_eq_getD_getElem?] at this; exact this
      have e1 : av.tmps.getD 71 undef = .int .i64 (n1 : Int) := (hw 5 (by kernel_rfl))
      have e1e : av.eval (.tmp 71) = .int .i64 (n1 : Int) := e1
      have e1g : av.tmps[71]?.getD undef = .int .i64 (n1 : Int) := by have := e1; simp only [Array.getD_eq_getD_getElem?] at this; exact this
      clear hw hF
      simp only [Oper.wp, execOp]
      try simp only [e0e, e1e]
      go_simp
      exact hK _ x (by first | rfl | (simp only [Nat.add_zero]; done) | (congr 1; omega)) (Below.refl _ _) (fun h => by cases h)
  intro av x hF hb' hR _
  have e0 : av.tmps.getD 66 undef = .pointer (some ⟨w.heap.size + 3, 2, none⟩) := hR 0 (by decide)
  have e1 : av.tmps.getD 67 undef = .slice none 0 0 := hR 1 (by decide)
  have e2 : av.tmps.getD 68 undef = .pointer (some ⟨w.heap.size, 2, none⟩) := hR 2 (by decide)
  have e3 : av.tmps.getD 69 undef = .slice B ds.length d := hR 3 (by decide)
  have e4 : av.tmps.getD 70 undef = .int .i64 (n0 : Int) := hR 4 (by decide)
  have e5 : av.tmps.getD 71 undef = .int .i64 (n1 : Int) := hR 5 (by decide)
  have e6 : av.tmps.getD 72 undef = .slice Da (n1) da := hR 6 (by decide)
  rw [hF.fold (by kernel_rfl)]
  simp only [List.foldl_cons, List.foldl_nil, e0, e1, e2, e3, e4, e5, e6]
  simp only [Act.put, List.setIfInBounds_toArray, List.set_cons_zero, List.set_cons_succ]
  change wpOps _ _ _ [7, 8, 9] _ _
  simp only [wpOps_cons]
  clear e0 e1 e2 e3 e4 e5 e6 hR hF
  have BY := Lib.hid (BX.out.below hb')
  have RW := Lib.hid (row_on RW.out hb')
  have RP := Lib.hid (row_on RP.out hb')
  have RQ := Lib.hid (row_on RQ.out hb')
  have RB := Lib.hid (row_on RB.out hb')
  clear hb'
  simp only [wpOp, List.getElem?_toArray, List.getElem?_cons_succ, List.getElem?_cons_zero, Region.wanted, if_true]
  refine Or.inl ?_
  refine wp_append2 nv_one et_i (.tmp 67) (.tmp 72) rfl (w.heap.size + 5) (.slice none 0 0) ([] : List Int) u1 X1 Da da (n1) rfl BY.out.o2 (RDA.out _ BY.out.kb) L2.out rfl EQ.out.1 BN.out.2.2.1 BY.out.bz ?_
  intro A9 c9 x9 ho9 hg9 hn9
  obtain ⟨ABX2, hA2⟩ : ∃ z, A9 = z := ⟨_, rfl⟩
  obtain ⟨cBX2, hc2⟩ : ∃ z, c9 = z := ⟨_, rfl⟩
  rw [hA2, hc2] at ho9 hn9 ⊢
  have BN := Lib.hid (BY.out.push2 ho9 hg9 hn9)
  have N9 := Lib.hid (BY.out.row2 hg9 BY.out.lt.2 BY.out.row)
  obtain ⟨VBX2, hU⟩ : ∃ U : World, U = x9.setCell ⟨w.heap.size + 3, 2, none⟩ (.slice ABX2 X1.length cBX2) := ⟨_, rfl⟩
  rw [← hU] at BN
  have RWz := Lib.hid (show VBX2.heap[w.heap.size]? = some _ by rw [hU]; exact row_far (BY.out.row2 hg9 (by omega) RW.out) (by omega) _)
  have RPz := Lib.hid (show VBX2.heap[w.heap.size + 1]? = some _ by rw [hU]; exact row_far (BY.out.row2 hg9 (by omega) RP.out) (by omega) _)
  have RQz := Lib.hid (show VBX2.heap[w.heap.size + 2]? = some _ by rw [hU]; exact row_far (BY.out.row2 hg9 (by omega) RQ.out) (by omega) _)
  have RBz := Lib.hid (show VBX2.heap[w.heap.size + 4]? = some _ by rw [hU]; exact row_far (BY.out.row2 hg9 (by omega) RB.out) (by omega) _)
  have f9 := row_c N9.out (i := 2) rfl
  have q9 := frozen_of_row _ _ 2 _ _ N9.out
  clear ho9 hg9 hn9 hA2 hc2 BY N9 BX RW RP RQ RB
  have BX := BN
  clear BN
  have RW := RWz
  clear RWz
  have RP := RPz
  clear RPz
  have RQ := RQz
  clear RQz
  have RB := RBz
  clear RBz
  go_simp
  try rw [wpOps_cons]
  simp only [wpOp, List.getElem?_toArray, List.getElem?_cons_succ, List.getElem?_cons_zero, Region.wanted, if_true]
  refine Or.inl ?_
  simp only [Oper.wp, execOp]
  go_simp
  try rw [wpOps_cons]
  simp only [wpOp, List.getElem?_toArray, List.getElem?_cons_succ, List.getElem?_cons_zero, Region.wanted, if_true]
  refine Or.inl ?_
  simp only [Oper.wp, execOp]
  go_simp
  try simp only [wpOps]
  rw [← hU]
  clear hU f9 q9
  have VA := Lib.hid BX.out.ol
  have BXb := Lib.hid (Bx.fresh (w := w) (base := VBX2.heap.size) RB.out BX.out.kb (Nat.le_refl _) ⟨by omega, by have := BX.out.bz; omega⟩)
  have RA := Lib.hid BX.out.row
  have hbz := BX.out.bz
  clear BX RB
  have BX := BXb
  clear BXb
  obtain ⟨b2, hb2⟩ : ∃ n, VBX2.heap.size = n := ⟨_, rfl⟩
  rw [hb2] at BX VA hbz
  clear hb2
  go_upto_region 13 with (fail)
  refine wp_operands (W := VBX2) rfl 7 [75, 76, 77, 78, 79, 80, 81] (fun i u x => match i with | 0 => u = .pointer (some ⟨w.heap.size + 4, 1, none⟩) | 1 => u = .slice none 0 0 | 2 => u = .pointer (some ⟨w.heap.size, 1, none⟩) | 3 => u = .slice (some ⟨bm, om, none⟩) ks.length c | 4 => u = .int .i64 (n0 : Int) | 5 => u = .int .i64 (n1 : Int) | 6 => u = .slice Kb (ks.length - n1) cb | _ => True) (fun _ => false)
    (by decide) rfl (by kernel_rfl) (by kernel_rfl) (by decide) (by kernel_rfl) ?_ (fun _ _ _ h => by cases h) ?_ ?_
  · intro i u x x' hi hR hb'
    have hi' : i = 0 ∨ i = 1 ∨ i = 2 ∨ i = 3 ∨ i = 4 ∨ i = 5 ∨ i = 6 := by omega
    rcases hi' with rfl | rfl | rfl | rfl | rfl | rfl | rfl
    · exact hR
    · exact hR
    · exact hR
    · exact hR
    · exact hR
    · exact hR
    · exact hR
  · intro i av x K hi hF hb' hw hK
    have hi' : i = 0 ∨ i = 1 ∨ i = 2 ∨ i = 3 ∨ i = 4 ∨ i = 5 ∨ i = 6 := by omega
    rcases hi' with rfl | rfl | rfl | rfl | rfl | rfl | rfl
    · simp only [wpOp, List.getElem?_toArray, List.getElem?_cons_zero, Region.wanted, if_true]
      refine Or.inl ?_
      have e0 : av.tmps.getD 8 undef = .pointer (some ⟨w.heap.size + 4, 0, none⟩) := hF.2.2 8 (by decide)
      have e0e : av.eval (.tmp 8) = .pointer (some ⟨w.heap.size + 4, 0, none⟩) := e0
      have e0g : av.tmps[8]?.getD undef = .pointer (some ⟨w.heap.size + 4, 0, none⟩) := by have := e0; simp only [Array.getD_eq_getD_getElem?] at this; exact this
      clear hw hF
      simp only [Oper.wp, execOp]
      try simp only [e0e]
      go_simp
      exact hK _ x (by first | rfl | (simp only [Nat.add_zero]; done) | (congr 1; omega)) (Below.refl _ _) (fun h => by cases h)
    · simp only [wpOp, List.getElem?_toArray, List.getElem?_cons_succ, List.getElem?_cons_zero, Region.wanted, if_true]
      refine Or.inl ?_
      have e0 : av.tmps.getD 75 undef = .pointer (some ⟨w.heap.size + 4, 1, none⟩) := (hw 0 (by kernel_rfl))
      have e0e : av.eval (.tmp 75) = .pointer (some ⟨w.heap.size + 4, 1, none⟩) := e0
      have e0g : av.tmps[75]?.getD undef = .pointer (some ⟨w.heap.size + 4, 1, none⟩) := by have := e0; simp only [Array.getD_eq_getD_getElem?] at this; exact this
      obtain ⟨fo0, fo1, fo2⟩ := BX.out.f hb'
      clear hw hF
      simp only [Oper.wp, execOp]
      try simp only [e0e]
      go_simp
      exact hK _ x (by first | rfl | (simp only [Nat.add_zero]; done) | (congr 1; omega)) (Below.refl _ _) (fun h => by cases h)
    · simp only [wpOp, List.getElem?_toArray, List.getElem?_cons_succ, List.getElem?_cons_zero, Region.wanted, if_true]
      refine Or.inl ?_
      have e0 : av.tmps.getD 1 undef = .pointer (some ⟨w.heap.size, 0, none⟩) := hF.2.2 1 (by decide)
      have e0e : av.eval (.tmp 1) = .pointer (some ⟨w.heap.size, 0, none⟩) := e0
      have e0g : av.tmps[1]?.getD undef = .pointer (some ⟨w.heap.size, 0, none⟩) := by have := e0; simp only [Array.getD_eq_getD_getElem?] at this; exact this
      clear hw hF
      simp only [Oper.wp, execOp]
      try simp only [e0e]
      go_simp
      exact hK _ x (by first | rfl | (simp only [Nat.add_zero]; done) | (congr 1; omega)) (Below.refl _ _) (fun h => by cases h)
    · simp only [wpOp, List.getElem?_toArray, List.getElem?_cons_succ, List.getElem?_cons_zero, Region.wanted, if_true]
      refine Or.inl ?_
      have e0 : av.tmps.getD 77 undef = .pointer (some ⟨w.heap.size, 1, none⟩) := (hw 2 (by kernel_rfl))
      have e0e : av.eval (.tmp 77) = .pointer (some ⟨w.heap.size, 1, none⟩) := e0
      have e0g : av.tmps[77]?.getD undef = .pointer (some ⟨w.heap.size, 1, none⟩) := by have := e0; simp only [Array.getD_eq_getD_getElem?] at this; exact this
      have fn := row_c (row_on RW.out hb') (i := 1) rfl
      clear hw hF
      simp only [Oper.wp, execOp]
      try simp only [e0e]
      go_simp
      exact hK _ x (by first | rfl | (simp only [Nat.add_zero]; done) | (congr 1; omega)) (Below.refl _ _) (fun h => by cases h)
    · simp only [wpOp, List.getElem?_toArray, List.getElem?_cons_succ, List.getElem?_cons_zero, Region.wanted, if_true]
      refine Or.inl ?_
      have e0 : av.tmps.getD 6 undef = .int .i64 (n0 : Int) := hF.2.2 6 (by decide)
      have e0e : av.eval (.tmp 6) = .int .i64 (n0 : Int) := e0
      have e0g : av.tmps[6]?.getD undef = .int .i64 (n0 : Int) := by have := e0; simp only [Array.getD_eq_getD_getElem?] at this; exact this
      clear hw hF
      simp only [Oper.wp, execOp]
      try simp only [e0e]
      go_simp
      exact hK _ x (by first | rfl | (simp only [Nat.add_zero]; done) | (congr 1; omega)) (Below.refl _ _) (fun h => by cases h)
    · simp only [wpOp, List.getElem?_toArray, List.getElem?_cons_succ, List.getElem?_cons_zero, Region.wanted, if_true]
      refine Or.inl ?_
      have e0 : av.tmps.getD 79 undef = .int .i64 (n0 : Int) := (hw 4 (by kernel_rfl))
      have e0e : av.eval (.tmp 79) = .int .i64 (n0 : Int) := e0
      have e0g : av.tmps[79]?.getD undef = .int .i64 (n0 : Int) := by have := e0; simp only [Array.getD_eq_getD_getElem?] at this; exact this
      clear hw hF
      simp only [Oper.wp, execOp]
      try simp only [e0e]
      go_simp
      exact hK _ x (by first | rfl | (simp only [Nat.add_zero]; done) | (congr 1; omega)) (Below.refl _ _) (fun h => by cases h)
    · simp only [wpOp, List.getElem?_toArray, List.getElem?_cons_succ, List.getElem?_cons_zero, Region.wanted, if_true]
      refine Or.inl ?_
      have e0 : av.tmps.getD 78 undef = .slice (some ⟨bm, om, none⟩) ks.length c := (hw 3 (by kernel_rfl))
      have e0e : av.eval (.tmp 78) = .slice (some ⟨bm, om, none⟩) ks.length c := e0
      have e0g : av.tmps[78]?.getD undef = .slice (some ⟨bm, om, none⟩) ks.length c := by have := e0; simp only [Array.getD_eq_getD_getElem?] at this; exact this
      have e1 : av.tmps.getD 80 undef = .int .i64 (n1 : Int) := (hw 5 (by kernel_rfl))
      have e1e : av.eval (.tmp 80) = .int .i64 (n1 : Int) := e1
      have e1g : av.tmps[80]?.getD undef = .int .i64 (n1 : Int) := by have := e1; simp only [Array.getD_eq_getD_getElem?] at this; exact this
      clear hw hF
      simp only [Oper.wp, execOp]
      try simp only [e0e, e1e]
      go_simp
      exact hK _ x (by first | rfl | (simp only [Nat.add_zero]; done) | (congr 1; omega)) (Below.refl _ _) (fun h => by cases h)
  intro av x hF hb' hR _
  have e0 : av.tmps.getD 75 undef = .pointer (some ⟨w.heap.size + 4, 1, none⟩) := hR 0 (by decide)
  have e1 : av.tmps.getD 76 undef = .slice none 0 0 := hR 1 (by decide)
  have e2 : av.tmps.getD 77 undef = .pointer (some ⟨w.heap.size, 1, none⟩) := hR 2 (by decide)
  have e3 : av.tmps.getD 78 undef = .slice (some ⟨bm, om, none⟩) ks.length c := hR 3 (by decide)
  have e4 : av.tmps.getD 79 undef = .int .i64 (n0 : Int) := hR 4 (by decide)
  have e5 : av.tmps.getD 80 undef = .int .i64 (n1 : Int) := hR 5 (by decide)
  have e6 : av.tmps.getD 81 undef = .slice Kb (ks.length - n1) cb := hR 6 (by decide)
  rw [hF.fold (by kernel_rfl)]
  simp only [List.foldl_cons, List.foldl_nil, e0, e1, e2, e3, e4, e5, e6]
  simp only [Act.put, List.setIfInBounds_toArray, List.set_cons_zero, List.set_cons_succ]
  change wpOps _ _ _ [7, 8, 9] _ _
  simp only [wpOps_cons]
  clear e0 e1 e2 e3 e4 e5 e6 hR hF
  have BY := Lib.hid (BX.out.below hb')
  have RW := Lib.hid (row_on RW.out hb')
  have RP := Lib.hid (row_on RP.out hb')
  have RQ := Lib.hid (row_on RQ.out hb')
  have RA := Lib.hid (row_on RA.out hb')
  have VA := Lib.hid (And.intro (VA.out.1.below hb') (VA.out.2.below hb'))
  clear hb'
  simp only [wpOp, List.getElem?_toArray, List.getElem?_cons_succ, List.getElem?_cons_zero, Region.wanted, if_true]
  refine Or.inl ?_
  refine wp_append2 sv_one et_s (.tmp 76) (.tmp 81) rfl b2 (.slice none 0 0) ([] : List (List UInt8)) y2 Z2 Kb cb (ks.length - n1) rfl BY.out.o1 (RKB.out _ BY.out.kb) L3.out rfl EK.out.2 BN.out.2.1 BY.out.bz ?_
  intro A9 c9 x9 ho9 hg9 hn9
  obtain ⟨ABX3, hA2⟩ : ∃ z, A9 = z := ⟨_, rfl⟩
  obtain ⟨cBX3, hc2⟩ : ∃ z, c9 = z := ⟨_, rfl⟩
  rw [hA2, hc2] at ho9 hn9 ⊢
  have BN := Lib.hid (BY.out.push1 ho9 hg9 hn9)
  have N9 := Lib.hid (BY.out.row1 hg9 BY.out.lt.2 BY.out.row)
  obtain ⟨VBX3, hU⟩ : ∃ U : World, U = x9.setCell ⟨w.heap.size + 4, 1, none⟩ (.slice ABX3 Z2.length cBX3) := ⟨_, rfl⟩
  rw [← hU] at BN
  have RWz := Lib.hid (show VBX3.heap[w.heap.size]? = some _ by rw [hU]; exact row_far (BY.out.row1 hg9 (by omega) RW.out) (by omega) _)
  have RPz := Lib.hid (show VBX3.heap[w.heap.size + 1]? = some _ by rw [hU]; exact row_far (BY.out.row1 hg9 (by omega) RP.out) (by omega) _)
  have RQz := Lib.hid (show VBX3.heap[w.heap.size + 2]? = some _ by rw [hU]; exact row_far (BY.out.row1 hg9 (by omega) RQ.out) (by omega) _)
  have RAz := Lib.hid (show VBX3.heap[w.heap.size + 3]? = some _ by rw [hU]; exact row_far (BY.out.row1 hg9 (by omega) RA.out) (by omega) _)
  have VAz := Lib.hid (show Ol _ VBX3 _ _ _ _ _ ∧ Ol _ VBX3 _ _ _ _ _ from ⟨by rw [hU]; exact BY.out.ol1 hg9 VA.out.1 (by omega) _ _, by rw [hU]; exact BY.out.ol1 hg9 VA.out.2 (by omega) _ _⟩)
  have f9 := row_c N9.out (i := 1) rfl
  have q9 := frozen_of_row _ _ 1 _ _ N9.out
  clear ho9 hg9 hn9 hA2 hc2 BY N9 BX RW RP RQ RA VA
  have BX := BN
  clear BN
  have RW := RWz
  clear RWz
  have RP := RPz
  clear RPz
  have RQ := RQz
  clear RQz
  have RA := RAz
  clear RAz
  have VA := VAz
  clear VAz
  go_simp
  try rw [wpOps_cons]
  simp only [wpOp, List.getElem?_toArray, List.getElem?_cons_succ, List.getElem?_cons_zero, Region.wanted, if_true]
  refine Or.inl ?_
  simp only [Oper.wp, execOp]
  go_simp
  try rw [wpOps_cons]
  simp only [wpOp, List.getElem?_toArray, List.getElem?_cons_succ, List.getElem?_cons_zero, Region.wanted, if_true]
  refine Or.inl ?_
  simp only [Oper.wp, execOp]
  go_simp
  try simp only [wpOps]
  rw [← hU]
  clear hU f9 q9
  go_upto_region 14 with (fail)
  refine wp_operands (W := VBX3) rfl 7 [84, 85, 86, 87, 88, 89, 90] (fun i u x => match i with | 0 => u = .pointer (some ⟨w.heap.size + 4, 2, none⟩) | 1 => u = .slice none 0 0 | 2 => u = .pointer (some ⟨w.heap.size, 2, none⟩) | 3 => u = .slice B ds.length d | 4 => u = .int .i64 (n0 : Int) | 5 => u = .int .i64 (n1 : Int) | 6 => u = .slice Db (ds.length - n1) db | _ => True) (fun _ => false)
    (by decide) rfl (by kernel_rfl) (by kernel_rfl) (by decide) (by kernel_rfl) ?_ (fun _ _ _ h => by cases h) ?_ ?_
  · intro i u x x' hi hR hb'
    have hi' : i = 0 ∨ i = 1 ∨ i = 2 ∨ i = 3 ∨ i = 4 ∨ i = 5 ∨ i = 6 := by omega
    rcases hi' with rfl | rfl | rfl | rfl | rfl | rfl | rfl
    · exact hR
    · exact hR
    · exact hR
    · exact hR
    · exact hR
    · exact hR
    · exact hR
  · intro i av x K hi hF hb' hw hK
    have hi' : i = 0 ∨ i = 1 ∨ i = 2 ∨ i = 3 ∨ i = 4 ∨ i = 5 ∨ i = 6 := by omega
    rcases hi' with rfl | rfl | rfl | rfl | rfl | rfl | rfl
    · simp only [wpOp, List.getElem?_toArray, List.getElem?_cons_zero, Region.wanted, if_true]
      refine Or.inl ?_
      have e0 : av.tmps.getD 8 undef = .pointer (some ⟨w.heap.size + 4, 0, none⟩) := hF.2.2 8 (by decide)
      have e0e : av.eval (.tmp 8) = .pointer (some ⟨w.heap.size + 4, 0, none⟩) := e0
      have e0g : av.tmps[8]?.getD undef = .pointer (some ⟨w.heap.size + 4, 0, none⟩) := by have := e0; simp only [Array.getD_eq_getD_getElem?] at this; exact this
      clear hw hF
      simp only [Oper.wp, execOp]
      try simp only [e0e]
      go_simp
      exact hK _ x (by first | rfl | (simp only [Nat.add_zero]; done) | (congr 1; omega)) (Below.refl _ _) (fun h => by cases h)
    · simp only [wpOp, List.getElem?_toArray, List.getElem?_cons_succ, List.getElem?_cons_zero, Region.wanted, if_true]
      refine Or.inl ?_
      have e0 : av.tmps.getD 84 undef = .pointer (some ⟨w.heap.size + 4, 2, none⟩) := (hw 0 (by kernel_rfl))
      have e0e : av.eval (.tmp 84) = .pointer (some ⟨w.heap.size + 4, 2, none⟩) := e0
      have e0g : av.tmps[84]?.getD undef = .pointer (some ⟨w.heap.size + 4, 2, none⟩) := by have := e0; simp only [Array.getD_eq_getD_getElem?] at this; exact this
      obtain ⟨fo0, fo1, fo2⟩ := BX.out.f hb'
      clear hw hF
      simp only [Oper.wp, execOp]
      try simp only [e0e]
      go_simp
      exact hK _ x (by first | rfl | (simp only [Nat.add_zero]; done) | (congr 1; omega)) (Below.refl _ _) (fun h => by cases h)
    · simp only [wpOp, List.getElem?_toArray, List.getElem?_cons_succ, List.getElem?_cons_zero, Region.wanted, if_true]
      refine Or.inl ?_
      have e0 : av.tmps.getD 1 undef = .pointer (some ⟨w.heap.size, 0, none⟩) := hF.2.2 1 (by decide)
      have e0e : av.eval (.tmp 1) = .pointer (some ⟨w.heap.size, 0, none⟩) := e0
      have e0g : av.tmps[1]?.getD undef = .pointer (some ⟨w.heap.size, 0, none⟩) := by have := e0; simp only [Array.getD_eq_getD_getElem?] at this; exact this
      clear hw hF
      simp only [Oper.wp, execOp]
      try simp only [e0e]
      go_simp
      exact hK _ x (by first | rfl | (simp only [Nat.add_zero]; done) | (congr 1; omega)) (Below.refl _ _) (fun h => by cases h)
    · simp only [wpOp, List.getElem?_toArray, List.getElem?_cons_succ, List.getElem?_cons_zero, Region.wanted, if_true]
      refine Or.inl ?_
      have e0 : av.tmps.getD 86 undef = .pointer (some ⟨w.heap.size, 2, none⟩) := (hw 2 (by kernel_rfl))
      have e0e : av.eval (.tmp 86) = .pointer (some ⟨w.heap.size, 2, none⟩) := e0
      have e0g : av.tmps[86]?.getD undef = .pointer (some ⟨w.heap.size, 2, none⟩) := by have := e0; simp only [Array.getD_eq_getD_getElem?] at this; exact this
      have fn := row_c (row_on RW.out hb') (i := 2) rfl
      clear hw hF
      simp only [Oper.wp, execOp]
      try simp only [e0e]
      go_simp
      exact hK _ x (by first | rfl | (simp only [Nat.add_zero]; done) | (congr 1; omega)) (Below.refl _ _) (fun h => by cases h)
    · simp only [wpOp, List.getElem?_toArray, List.getElem?_cons_succ, List.getElem?_cons_zero, Region.wanted, if_true]
      refine Or.inl ?_
      have e0 : av.tmps.getD 6 undef = .int .i64 (n0 : Int) := hF.2.2 6 (by decide)
      have e0e : av.eval (.tmp 6) = .int .i64 (n0 : Int) := e0
      have e0g : av.tmps[6]?.getD undef = .int .i64 (n0 : Int) := by have := e0; simp only [Array.getD_eq_getD_getElem?] at this; exact this
      clear hw hF
      simp only [Oper.wp, execOp]
      try simp only [e0e]
      go_simp
      exact hK _ x (by first | rfl | (simp only [Nat.add_zero]; done) | (congr 1; omega)) (Below.refl _ _) (fun h => by cases h)
    · simp only [wpOp, List.getElem?_toArray, List.getElem?_cons_succ, List.getElem?_cons_zero, Region.wanted, if_true]
      refine Or.inl ?_
      have e0 : av.tmps.getD 88 undef = .int .i64 (n0 : Int) := (hw 4 (by kernel_rfl))
      have e0e : av.eval (.tmp 88) = .int .i64 (n0 : Int) := e0
      have e0g : av.tmps[88]?.getD undef = .int .i64 (n0 : Int) := by have := e0; simp only [Array.getD_eq_getD_getElem?] at this; exact this
      clear hw hF
      simp only [Oper.wp, execOp]
      try simp only [e0e]
      go_simp
      exact hK _ x (by first | rfl | (simp only [Nat.add_zero]; done) | (congr 1; omega)) (Below.refl _ _) (fun h => by cases h)
    · simp only [wpOp, List.getElem?_toArray, List.getElem?_cons_succ, List.getElem?_cons_zero, Region.wanted, if_true]
      refine Or.inl ?_
      have e0 : av.tmps.getD 87 undef = .slice B ds.length d := (hw 3 (by kernel_rfl))
      have e0e : av.eval (.tmp 87) = .slice B ds.length d := e0
      have e0g : av.tmps[87]?.getD undef = .slice B ds.length d := by have := e0; simp only [Array.getD_eq_getD_getElem?] at this; exact this
      have e1 : av.tmps.getD 89 undef = .int .i64 (n1 : Int) := (hw 5 (by kernel_rfl))
      have e1e : av.eval (.tmp 89) = .int .i64 (n1 : Int) := e1
      have e1g : av.tmps[89]?.getD undef = .int .i64 (n1 : Int) := by have := e1; simp only [Array.getD_eq_getD_getElem?] at this; exact this
      clear hw hF
      simp only [Oper.wp, execOp]
      try simp only [e0e, e1e]
      go_simp
      exact hK _ x (by first | rfl | (simp only [Nat.add_zero]; done) | (congr 1; omega)) (Below.refl _ _) (fun h => by cases h)
  intro av x hF hb' hR _
  have e0 : av.tmps.getD 84 undef = .pointer (some ⟨w.heap.size + 4, 2, none⟩) := hR 0 (by decide)
  have e1 : av.tmps.getD 85 undef = .slice none 0 0 := hR 1 (by decide)
  have e2 : av.tmps.getD 86 undef = .pointer (some ⟨w.heap.size, 2, none⟩) := hR 2 (by decide)
  have e3 : av.tmps.getD 87 undef = .slice B ds.length d := hR 3 (by decide)
  have e4 : av.tmps.getD 88 undef = .int .i64 (n0 : Int) := hR 4 (by decide)
  have e5 : av.tmps.getD 89 undef = .int .i64 (n1 : Int) := hR 5 (by decide)
  have e6 : av.tmps.getD 90 undef = .slice Db (ds.length - n1) db := hR 6 (by decide)
  rw [hF.fold (by kernel_rfl)]
  simp only [List.foldl_cons, List.foldl_nil, e0, e1, e2, e3, e4, e5, e6]
  simp only [Act.put, List.setIfInBounds_toArray, List.set_cons_zero, List.set_cons_succ]
  change wpOps _ _ _ [7, 8, 9] _ _
  simp only [wpOps_cons]
  clear e0 e1 e2 e3 e4 e5 e6 hR hF
  have BY := Lib.hid (BX.out.below hb')
  have RW := Lib.hid (row_on RW.out hb')
  have RP := Lib.hid (row_on RP.out hb')
  have RQ := Lib.hid (row_on RQ.out hb')
  have RA := Lib.hid (row_on RA.out hb')
  have VA := Lib.hid (And.intro (VA.out.1.below hb') (VA.out.2.below hb'))
  clear hb'
  simp only [wpOp, List.getElem?_toArray, List.getElem?_cons_succ, List.getElem?_cons_zero, Region.wanted, if_true]
  refine Or.inl ?_
  refine wp_append2 nv_one et_i (.tmp 85) (.tmp 90) rfl b2 (.slice none 0 0) ([] : List Int) u2 X2 Db db (ds.length - n1) rfl BY.out.o2 (RDB.out _ BY.out.kb) L4.out rfl EQ.out.2 BN.out.2.2.2 BY.out.bz ?_
  intro A9 c9 x9 ho9 hg9 hn9
  obtain ⟨ABX4, hA2⟩ : ∃ z, A9 = z := ⟨_, rfl⟩
  obtain ⟨cBX4, hc2⟩ : ∃ z, c9 = z := ⟨_, rfl⟩
  rw [hA2, hc2] at ho9 hn9 ⊢
  have BN := Lib.hid (BY.out.push2 ho9 hg9 hn9)
  have N9 := Lib.hid (BY.out.row2 hg9 BY.out.lt.2 BY.out.row)
  obtain ⟨VBX4, hU⟩ : ∃ U : World, U = x9.setCell ⟨w.heap.size + 4, 2, none⟩ (.slice ABX4 X2.length cBX4) := ⟨_, rfl⟩
  rw [← hU] at BN
  have RWz := Lib.hid (show VBX4.heap[w.heap.size]? = some _ by rw [hU]; exact row_far (BY.out.row2 hg9 (by omega) RW.out) (by omega) _)
  have RPz := Lib.hid (show VBX4.heap[w.heap.size + 1]? = some _ by rw [hU]; exact row_far (BY.out.row2 hg9 (by omega) RP.out) (by omega) _)
  have RQz := Lib.hid (show VBX4.heap[w.heap.size + 2]? = some _ by rw [hU]; exact row_far (BY.out.row2 hg9 (by omega) RQ.out) (by omega) _)
  have RAz := Lib.hid (show VBX4.heap[w.heap.size + 3]? = some _ by rw [hU]; exact row_far (BY.out.row2 hg9 (by omega) RA.out) (by omega) _)
  have VAz := Lib.hid (show Ol _ VBX4 _ _ _ _ _ ∧ Ol _ VBX4 _ _ _ _ _ from ⟨by rw [hU]; exact BY.out.ol2 hg9 VA.out.1 (by omega) _ _, by rw [hU]; exact BY.out.ol2 hg9 VA.out.2 (by omega) _ _⟩)
  have f9 := row_c N9.out (i := 2) rfl
  have q9 := frozen_of_row _ _ 2 _ _ N9.out
  clear ho9 hg9 hn9 hA2 hc2 BY N9 BX RW RP RQ RA VA
  have BX := BN
  clear BN
  have RW := RWz
  clear RWz
  have RP := RPz
  clear RPz
  have RQ := RQz
  clear RQz
  have RA := RAz
  clear RAz
  have VA := VAz
  clear VAz
  go_simp
  try rw [wpOps_cons]
  simp only [wpOp, List.getElem?_toArray, List.getElem?_cons_succ, List.getElem?_cons_zero, Region.wanted, if_true]
  refine Or.inl ?_
  simp only [Oper.wp, execOp]
  go_simp
  try rw [wpOps_cons]
  simp only [wpOp, List.getElem?_toArray, List.getElem?_cons_succ, List.getElem?_cons_zero, Region.wanted, if_true]
  refine Or.inl ?_
  simp only [Oper.wp, execOp]
  go_simp
  try simp only [wpOps]
  rw [← hU]
  clear hU f9 q9
  have RBo := Lib.hid BX.out.row
  have FRW := Lib.hid (fun x (K : VBX4.grownBy x (some (w.heap.size + 1))) => have r := row_grow RW.out K (by simp); And.intro (row_c r (i := 0) rfl) (And.intro (row_c r (i := 1) rfl) (row_c r (i := 2) rfl)))
  have FRA := Lib.hid (fun x (K : VBX4.grownBy x (some (w.heap.size + 1))) => have r := row_grow RA.out K (by simp); And.intro (row_c r (i := 0) rfl) (And.intro (row_c r (i := 1) rfl) (row_c r (i := 2) rfl)))
  have FRBo := Lib.hid (fun x (K : VBX4.grownBy x (some (w.heap.size + 1))) => have r := row_grow RBo.out K (by simp); And.intro (row_c r (i := 0) rfl) (And.intro (row_c r (i := 1) rfl) (row_c r (i := 2) rfl)))
  have FMx := Lib.hid (fun x (K : VBX4.grownBy x (some (w.heap.size + 1))) => ((below_g (B := w.heap.size) K (by omega) BX.out.kb.size).cell (p := ⟨bm, om + n0, none⟩) MM.out.1).trans ((BX.out.kb.cell (p := ⟨bm, om + n0, none⟩) MM.out.1).trans MM.out.2))
  have RPd := Lib.hid (show VBX4.drew.heap[w.heap.size + 1]? = some (.cells #[.bool false, .slice none 0 0, .slice none 0 0] 33 (0, 0)) from RP.out)
  have BV := BX.out.kb
  have BVs := Lib.hid (show w.heap.size + 2 ≤ VBX4.heap.size from heap_lt RP.out)
  go_upto_region 15 with (fail)
  have hhl := K01.out.2
  have hh0 := K01.out.1
  refine wp_operandsZ (W := VBX4) rfl 9 [93, 94, 95, 96, 97, 98, 99, 9, 3] (fun i u x => match i with | 0 => u = .agg #[.bool false, .slice ABX1 Z1.length cBX1, .slice ABX2 X1.length cBX2] | 1 => u = .pointer (some ⟨w.heap.size, 1, none⟩) | 2 => u = .slice (some ⟨bm, om, none⟩) ks.length c | 3 => u = .int .i64 (n0 : Int) | 4 => u = .pointer (some ⟨bm, om + n0, none⟩) | 5 => u = .string ⟨mid.toArray⟩ | 6 => u = .agg #[.bool false, .slice ABX3 Z2.length cBX3, .slice ABX4 X2.length cBX4] | 7 => True | 8 => u = .string ⟨mid.toArray⟩ | _ => True) (fun a b => a.grownBy b (some (w.heap.size + 1))) (fun l x => x.heap[w.heap.size + 1]? = some (.cells (if l 7 then #[.bool false, .slice ABX1 Z1.length cBX1, .slice ABX2 X1.length cBX2] else #[.bool false, .slice none 0 0, .slice none 0 0]) 33 (0, 0)))
    (by decide) rfl (by kernel_rfl) (by kernel_rfl) (by decide) (by kernel_rfl) (fun _ _ _ => grow_trans) ?_ (grow_below (bd0 VBX4)) (by simpa using RPd.out) ?_ ?_
  · intro i u x x' hi hR hb'
    have hi' : i = 0 ∨ i = 1 ∨ i = 2 ∨ i = 3 ∨ i = 4 ∨ i = 5 ∨ i = 6 ∨ i = 7 ∨ i = 8 := by omega
    rcases hi' with rfl | rfl | rfl | rfl | rfl | rfl | rfl | rfl | rfl
    · exact hR
    · exact hR
    · exact hR
    · exact hR
    · exact hR
    · exact hR
    · exact hR
    · exact trivial
    · exact hR
  · intro i av x l K hi hF hb' hl hw hZ hK
    have hi' : i = 0 ∨ i = 1 ∨ i = 2 ∨ i = 3 ∨ i = 4 ∨ i = 5 ∨ i = 6 ∨ i = 7 ∨ i = 8 := by omega
    rcases hi' with rfl | rfl | rfl | rfl | rfl | rfl | rfl | rfl | rfl
    · simp only [wpOp, List.getElem?_toArray, List.getElem?_cons_zero, Region.wanted, if_true]
      refine Or.inl ?_
      have e0 : av.tmps.getD 7 undef = .pointer (some ⟨w.heap.size + 3, 0, none⟩) := hF.2.2 7 (by decide)
      have e0e : av.eval (.tmp 7) = .pointer (some ⟨w.heap.size + 3, 0, none⟩) := e0
      have e0g : av.tmps[7]?.getD undef = .pointer (some ⟨w.heap.size + 3, 0, none⟩) := by have := e0; simp only [Array.getD_eq_getD_getElem?] at this; exact this
      obtain ⟨f0, f1, f2⟩ := FRA.out x hb'
      clear hw hF
      simp only [Oper.wp, execOp]
      try simp only [e0e]
      go_simp
      exact hK _ x (by first | rfl | (simp only [Nat.add_zero]; done) | (congr 1; omega)) (World.grownBy.refl _ _) (by simpa using hZ)
    · simp only [wpOp, List.getElem?_toArray, List.getElem?_cons_succ, List.getElem?_cons_zero, Region.wanted, if_true]
      refine Or.inl ?_
      have e0 : av.tmps.getD 1 undef = .pointer (some ⟨w.heap.size, 0, none⟩) := hF.2.2 1 (by decide)
      have e0e : av.eval (.tmp 1) = .pointer (some ⟨w.heap.size, 0, none⟩) := e0
      have e0g : av.tmps[1]?.getD undef = .pointer (some ⟨w.heap.size, 0, none⟩) := by have := e0; simp only [Array.getD_eq_getD_getElem?] at this; exact this
      clear hw hF
      simp only [Oper.wp, execOp]
      try simp only [e0e]
      go_simp
      exact hK _ x (by first | rfl | (simp only [Nat.add_zero]; done) | (congr 1; omega)) (World.grownBy.refl _ _) (by simpa using hZ)
    · simp only [wpOp, List.getElem?_toArray, List.getElem?_cons_succ, List.getElem?_cons_zero, Region.wanted, if_true]
      refine Or.inl ?_
      have e0 : av.tmps.getD 94 undef = .pointer (some ⟨w.heap.size, 1, none⟩) := (hw 1 (by kernel_rfl)).2
      have e0e : av.eval (.tmp 94) = .pointer (some ⟨w.heap.size, 1, none⟩) := e0
      have e0g : av.tmps[94]?.getD undef = .pointer (some ⟨w.heap.size, 1, none⟩) := by have := e0; simp only [Array.getD_eq_getD_getElem?] at this; exact this
      obtain ⟨f0, f1, f2⟩ := FRW.out x hb'
      clear hw hF
      simp only [Oper.wp, execOp]
      try simp only [e0e]
      go_simp
      exact hK _ x (by first | rfl | (simp only [Nat.add_zero]; done) | (congr 1; omega)) (World.grownBy.refl _ _) (by simpa using hZ)
    · simp only [wpOp, List.getElem?_toArray, List.getElem?_cons_succ, List.getElem?_cons_zero, Region.wanted, if_true]
      refine Or.inl ?_
      have e0 : av.tmps.getD 6 undef = .int .i64 (n0 : Int) := hF.2.2 6 (by decide)
      have e0e : av.eval (.tmp 6) = .int .i64 (n0 : Int) := e0
      have e0g : av.tmps[6]?.getD undef = .int .i64 (n0 : Int) := by have := e0; simp only [Array.getD_eq_getD_getElem?] at this; exact this
      clear hw hF
      simp only [Oper.wp, execOp]
      try simp only [e0e]
      go_simp
      exact hK _ x (by first | rfl | (simp only [Nat.add_zero]; done) | (congr 1; omega)) (World.grownBy.refl _ _) (by simpa using hZ)
    · simp only [wpOp, List.getElem?_toArray, List.getElem?_cons_succ, List.getElem?_cons_zero, Region.wanted, if_true]
      refine Or.inl ?_
      have e0 : av.tmps.getD 95 undef = .slice (some ⟨bm, om, none⟩) ks.length c := (hw 2 (by kernel_rfl)).2
      have e0e : av.eval (.tmp 95) = .slice (some ⟨bm, om, none⟩) ks.length c := e0
      have e0g : av.tmps[95]?.getD undef = .slice (some ⟨bm, om, none⟩) ks.length c := by have := e0; simp only [Array.getD_eq_getD_getElem?] at this; exact this
      have e1 : av.tmps.getD 96 undef = .int .i64 (n0 : Int) := (hw 3 (by kernel_rfl)).2
      have e1e : av.eval (.tmp 96) = .int .i64 (n0 : Int) := e1
      have e1g : av.tmps[96]?.getD undef = .int .i64 (n0 : Int) := by have := e1; simp only [Array.getD_eq_getD_getElem?] at this; exact this
      clear hw hF
      simp only [Oper.wp, execOp]
      try simp only [e0e, e1e]
      go_simp
      exact hK _ x (by first | rfl | (simp only [Nat.add_zero]; done) | (congr 1; omega)) (World.grownBy.refl _ _) (by simpa using hZ)
    · simp only [wpOp, List.getElem?_toArray, List.getElem?_cons_succ, List.getElem?_cons_zero, Region.wanted, if_true]
      refine Or.inl ?_
      have e0 : av.tmps.getD 97 undef = .pointer (some ⟨bm, om + n0, none⟩) := (hw 4 (by kernel_rfl)).2
      have e0e : av.eval (.tmp 97) = .pointer (some ⟨bm, om + n0, none⟩) := e0
      have e0g : av.tmps[97]?.getD undef = .pointer (some ⟨bm, om + n0, none⟩) := by have := e0; simp only [Array.getD_eq_getD_getElem?] at this; exact this
      have fm := FMx.out x hb'
      unfold sv at fm
      clear hw hF
      simp only [Oper.wp, execOp]
      try simp only [e0e]
      go_simp
      exact hK _ x (by first | rfl | (simp only [Nat.add_zero]; done) | (congr 1; omega)) (World.grownBy.refl _ _) (by simpa using hZ)
    · simp only [wpOp, List.getElem?_toArray, List.getElem?_cons_succ, List.getElem?_cons_zero, Region.wanted, if_true]
      refine Or.inl ?_
      have e0 : av.tmps.getD 8 undef = .pointer (some ⟨w.heap.size + 4, 0, none⟩) := hF.2.2 8 (by decide)
      have e0e : av.eval (.tmp 8) = .pointer (some ⟨w.heap.size + 4, 0, none⟩) := e0
      have e0g : av.tmps[8]?.getD undef = .pointer (some ⟨w.heap.size + 4, 0, none⟩) := by have := e0; simp only [Array.getD_eq_getD_getElem?] at this; exact this
      obtain ⟨f0, f1, f2⟩ := FRBo.out x hb'
      clear hw hF
      simp only [Oper.wp, execOp]
      try simp only [e0e]
      go_simp
      exact hK _ x (by first | rfl | (simp only [Nat.add_zero]; done) | (congr 1; omega)) (World.grownBy.refl _ _) (by simpa using hZ)
    · simp only [wpOp, List.getElem?_toArray, List.getElem?_cons_succ, List.getElem?_cons_zero, Region.wanted, if_true]
      refine Or.inl ?_
      have e0 : av.tmps.getD 2 undef = .pointer (some ⟨w.heap.size + 1, 0, none⟩) := hF.2.2 2 (by decide)
      have e0e : av.eval (.tmp 2) = .pointer (some ⟨w.heap.size + 1, 0, none⟩) := e0
      have e0g : av.tmps[2]?.getD undef = .pointer (some ⟨w.heap.size + 1, 0, none⟩) := by have := e0; simp only [Array.getD_eq_getD_getElem?] at this; exact this
      have e1 : av.tmps.getD 93 undef = .agg #[.bool false, .slice ABX1 Z1.length cBX1, .slice ABX2 X1.length cBX2] := (hw 0 (by kernel_rfl)).2
      have e1e : av.eval (.tmp 93) = .agg #[.bool false, .slice ABX1 Z1.length cBX1, .slice ABX2 X1.length cBX2] := e1
      have e1g : av.tmps[93]?.getD undef = .agg #[.bool false, .slice ABX1 Z1.length cBX1, .slice ABX2 X1.length cBX2] := by have := e1; simp only [Array.getD_eq_getD_getElem?] at this; exact this
      have hrow : x.heap[w.heap.size + 1]? = some (.cells #[.bool false, .slice none 0 0, .slice none 0 0] 33 (0, 0)) := by have := hZ; simpa only [hl, if_false, Bool.false_eq_true] using this
      have p0 := row_c hrow (i := 0) rfl
      have p1 := row_c hrow (i := 1) rfl
      have p2 := row_c hrow (i := 2) rfl
      have y0 := frozen_of_row _ _ 0 _ _ hrow
      have y1 := frozen_of_row _ _ 1 _ _ hrow
      have y2 := frozen_of_row _ _ 2 _ _ hrow
      have PS := put_self av 9
      clear hw hF
      simp only [Oper.wp, execOp]
      try simp only [e0e, e1e]
      go_simp
      have hset := row_set (i := 2) (row_set (i := 1) (row_set (i := 0) hrow (.bool false)) (.slice ABX1 Z1.length cBX1)) (.slice ABX2 X1.length cBX2)
      have := hK (av.tmps.getD 9 undef) (((x.setCell ⟨w.heap.size + 1, 0, none⟩ (.bool false)).setCell ⟨w.heap.size + 1, 1, none⟩ (.slice ABX1 Z1.length cBX1)).setCell ⟨w.heap.size + 1, 2, none⟩ (.slice ABX2 X1.length cBX2)) trivial (grow_trans (grow_trans (grow_set _ _ _ _) (grow_set _ _ _ _)) (grow_set _ _ _ _)) (by simpa using hset)
      replace this : K (av.put (some 9) (av.tmps.getD 9 undef)) _ := this
      rw [PS] at this
      exact this
    · simp only [wpOp, List.getElem?_toArray, List.getElem?_cons_succ, List.getElem?_cons_zero, Region.wanted, if_true]
      refine Or.inl ?_
      have e0 : av.tmps.getD 98 undef = .string ⟨mid.toArray⟩ := (hw 5 (by kernel_rfl)).2
      have e0e : av.eval (.tmp 98) = .string ⟨mid.toArray⟩ := e0
      have e0g : av.tmps[98]?.getD undef = .string ⟨mid.toArray⟩ := by have := e0; simp only [Array.getD_eq_getD_getElem?] at this; exact this
      clear hw hF
      simp only [Oper.wp, execOp]
      try simp only [e0e]
      go_simp
      exact hK _ x (by first | rfl | (simp only [Nat.add_zero]; done) | (congr 1; omega)) (World.grownBy.refl _ _) (by simpa using hZ)
  · intro av x l hF hb' hR hl hZ
    have e0 : av.tmps.getD 93 undef = .agg #[.bool false, .slice ABX1 Z1.length cBX1, .slice ABX2 X1.length cBX2] := hR 0 (by decide)
    have e1 : av.tmps.getD 94 undef = .pointer (some ⟨w.heap.size, 1, none⟩) := hR 1 (by decide)
    have e2 : av.tmps.getD 95 undef = .slice (some ⟨bm, om, none⟩) ks.length c := hR 2 (by decide)
    have e3 : av.tmps.getD 96 undef = .int .i64 (n0 : Int) := hR 3 (by decide)
    have e4 : av.tmps.getD 97 undef = .pointer (some ⟨bm, om + n0, none⟩) := hR 4 (by decide)
    have e5 : av.tmps.getD 98 undef = .string ⟨mid.toArray⟩ := hR 5 (by decide)
    have e6 : av.tmps.getD 99 undef = .agg #[.bool false, .slice ABX3 Z2.length cBX3, .slice ABX4 X2.length cBX4] := hR 6 (by decide)
    have e8 : av.tmps.getD 3 undef = .string ⟨mid.toArray⟩ := hR 8 (by decide)
    rw [hF.fold (by kernel_rfl)]
    simp only [List.foldl_cons, List.foldl_nil, e0, e1, e2, e3, e4, e5, e6, e8]
    simp only [Act.put, List.setIfInBounds_toArray, List.set_cons_zero, List.set_cons_succ]
    change wpOps _ _ _ [9, 10] _ _
    simp only [wpOps_cons]
    clear e0 e1 e2 e3 e4 e5 e6 e8 hR hF
    have k7 := hl 7 (by decide)
    have RX := Lib.hid (show x.heap[w.heap.size + 1]? = some (.cells #[.bool false, .slice ABX1 Z1.length cBX1, .slice ABX2 X1.length cBX2] 33 (0, 0)) by have := hZ; simpa only [k7, if_true] using this)
    have GB := Lib.hid hb'
    have RQx := Lib.hid (row_grow RQ.out hb' (by simp))
    have VAx := Lib.hid (And.intro (VA.out.1.grow hb' (fun k e => .inl (by injection e with e; omega))) (VA.out.2.grow hb' (fun k e => .inl (by injection e with e; omega))))
    have VBx := Lib.hid (And.intro (BX.out.ol.1.grow hb' (fun k e => .inl (by injection e with e; have := BX.out.bz; omega))) (BX.out.ol.2.grow hb' (fun k e => .inl (by injection e with e; omega))))
    have KX := Lib.hid (BX.out.kb.trans (below_g hb' (by omega) BX.out.kb.size))
    clear hZ hl hb' k7 VA BX RQ RW RP RA RBo FRW FRA FRBo FMx BV BVs RPd
    have p0 := row_c RX.out (i := 0) rfl
    have p1 := row_c RX.out (i := 1) rfl
    have p2 := row_c RX.out (i := 2) rfl
    have q0 := row_c RQx.out (i := 0) rfl
    have q1 := row_c RQx.out (i := 1) rfl
    have q2 := row_c RQx.out (i := 2) rfl
    have qz0 := frozen_of_row _ _ 0 _ _ RQx.out
    have qz1 := frozen_of_row _ _ 1 _ _ RQx.out
    have qz2 := frozen_of_row _ _ 2 _ _ RQx.out
    try rw [wpOps_cons]
    simp only [wpOp, List.getElem?_toArray, List.getElem?_cons_succ, List.getElem?_cons_zero, Region.wanted, if_true]
    refine Or.inl ?_
    simp only [Oper.wp, execOp]
    go_simp
    try rw [wpOps_cons]
    simp only [wpOp, List.getElem?_toArray, List.getElem?_cons_succ, List.getElem?_cons_zero, Region.wanted, if_true]
    refine Or.inl ?_
    simp only [Oper.wp, execOp]
    go_simp
    try simp only [wpOps]
    go_wp2
    refine bodyPost_ret (v := .tuple #[.agg #[.bool false, .slice ABX1 Z1.length cBX1, .slice ABX2 X1.length cBX2], .string ⟨mid.toArray⟩, .agg #[.bool false, .slice ABX3 Z2.length cBX3, .slice ABX4 X2.length cBX4], .bool true]) (by simp [results, Try.results31, go_sem, p0, p1, p2, q0, q1, q2]) rfl ⟨ABX1, cBX1, ABX2, cBX2, ABX3, cBX3, ABX4, cBX4, rfl, ?_, ?_, ?_, ?_, ?_⟩
    · exact (((VAx.out.1.set (by omega) _ _).set (by omega) _ _).set (by omega) _ _).1
    · exact (((VAx.out.2.set (by omega) _ _).set (by omega) _ _).set (by omega) _ _).1
    · exact (((VBx.out.1.set (by omega) _ _).set (by omega) _ _).set (by omega) _ _).1
    · exact (((VBx.out.2.set (by omega) _ _).set (by omega) _ _).set (by omega) _ _).1
    · exact ((KX.out.setCell (by first | (simp; done) | (simp; omega)) _).setCell (by first | (simp; done) | (simp; omega)) _).setCell (by first | (simp; done) | (simp; omega)) _
set_option maxHeartbeats 4000000 in
set_option maxRecDepth 100000 in
theorem rsplit_t (A : Option Addr) (c : Nat) (ks : List (List UInt8)) (B : Option Addr) (d : Nat) (ds : List Int) (mid : List UInt8) (w : World) (h : Rl sv w A c ks) (h2 : Rl nv w B d ds) (hl : ks.length ≤ 3999990) (hsd : ds.length = ks.length) (h4 : 4 ≤ ks.length)
    (n0 n1 : Nat) (hn0 : ks.length / 2 = n0) (hn1 : n0 + 1 = n1) (hm : ks[n0]? = some mid) (y1 y2 Z1 Z2 : List (List UInt8)) (u1 u2 X1 X2 : List Int)
    (e1 : ks.take n0 = y1) (e2 : ks.drop n0 = y2) (q1 : ds.take n0 = u1) (q2 : ds.drop n0 = u2) (E1 : [] ++ y1 = Z1) (E2 : [] ++ y2 = Z2) (Q1 : [] ++ u1 = X1) (Q2 : [] ++ u2 = X2) :
    Calls Try.prog 31 #[.agg #[.bool true, .slice A ks.length c, .slice B ds.length d]] w fun e w' => ∃ A' c' B' d' A2 c2 B2 d2, e = .returned (.tuple #[.agg #[.bool true, .slice A' Z1.length c', .slice B' X1.length d'], .string ⟨mid.toArray⟩, .agg #[.bool true, .slice A2 Z2.length c2, .slice B2 X2.length d2], .bool true]) ∧ Rl sv w' A' c' Z1 ∧ Rl nv w' B' d' X1 ∧ Rl sv w' A2 c2 Z2 ∧ Rl nv w' B2 d2 X2 ∧ Below w.heap.size w w' := by
  obtain ⟨Ka, ca, hka, rka⟩ := cut_to et_s (g := sv) A c ks n0 (by omega) h.1
  obtain ⟨Da, da, hda, rda⟩ := cut_to et_i (g := nv) B d ds n0 (by omega) h2.1
  obtain ⟨Kb, cb, hkb, rkb⟩ := cut_from et_s (g := sv) A c ks n0 (by omega) h.1
  obtain ⟨Db, db, hdb, rdb⟩ := cut_from et_i (g := nv) B d ds n0 (by omega) h2.1
  rw [e1] at rka
  rw [q1] at rda
  rw [e2] at rkb
  rw [q2] at rdb
  have L1 := Lib.hid (show n0 = y1.length by rw [← e1, List.length_take]; omega)
  have L2 := Lib.hid (show n0 = u1.length by rw [← q1, List.length_take]; omega)
  have L3 := Lib.hid (show ks.length - n0 = y2.length by rw [← e2, List.length_drop])
  have L4 := Lib.hid (show ds.length - n0 = u2.length by rw [← q2, List.length_drop])
  have EK := Lib.hid (And.intro E1 E2)
  have EQ := Lib.hid (And.intro Q1 Q2)
  have BN := Lib.hid (show Z1.length ≤ 4000000 ∧ Z2.length ≤ 4000000 ∧ X1.length ≤ 4000000 ∧ X2.length ≤ 4000000 by
    have h1 := L1.out; have h2 := L2.out; have h3 := L3.out; have h4 := L4.out
    rw [← E2, ← E1, ← Q2, ← Q1]
    simp only [List.length_append, List.length_nil]
    omega)
  have RKA := Lib.hid (fun V (hV : Below w.heap.size w V) => rka V (h.below hV))
  have RDA := Lib.hid (fun V (hV : Below w.heap.size w V) => rda V (h2.below hV))
  have RKB := Lib.hid (fun V (hV : Below w.heap.size w V) => rkb V (h.below hV))
  have RDB := Lib.hid (fun V (hV : Below w.heap.size w V) => rdb V (h2.below hV))
  obtain ⟨bm, om, hA, hbm, hcm⟩ := h.cell hm
  have MM := Lib.hid (And.intro hbm hcm)
  have w1 : IntKind.i64.wrap ((n0 : Int) + 1) = (n1 : Int) := by rw [IntWalk.i64_in _ (by omega)]; omega
  have g1 : decide (ks.length < 4) = false := decide_eq_false (by omega)
  have g2 : decide ((ks.length : Int) < 4) = false := decide_eq_false (by omega)
  have g3 : (ks.length : Int).tdiv 2 = (n0 : Int) := by rw [Int.tdiv_eq_ediv_of_nonneg (by omega)]; omega
  have g4 : (ks.length : Int) / 2 = (n0 : Int) := by omega
  have g5 : wrap64 (n0 : Int) = (n0 : Int) := IntWalk.wrap64_in _ (by omega)
  have k1 : (n0 : Int) < (ks.length : Int) := by omega
  have k0 : (0 : Int) ≤ (n0 : Int) := by omega
  have K01 := Lib.hid (And.intro k0 k1)
  subst hA
  obtain ⟨W, hW⟩ : ∃ W : World, W = ((((w.alloc (.cells #[.bool true, .slice (some ⟨bm, om, none⟩) ks.length c, .slice B ds.length d] 33)).alloc (.cells #[.bool false, .slice none 0 0, .slice none 0 0] 33)).alloc (.cells #[.bool false, .slice none 0 0, .slice none 0 0] 33)).alloc (.cells #[.bool true, .slice none 0 0, .slice none 0 0] 33)).alloc (.cells #[.bool true, .slice none 0 0, .slice none 0 0] 33) := ⟨_, rfl⟩
  have RW := Lib.hid (show W.heap[w.heap.size]? = some (.cells #[.bool true, .slice (some ⟨bm, om, none⟩) ks.length c, .slice B ds.length d] 33 (0, 0)) by rw [hW]; have := row_on (row_on (row_on (row_on (heap_alloc_new w (.cells #[.bool true, .slice (some ⟨bm, om, none⟩) ks.length c, .slice B ds.length d] 33)) (bda _ (.cells #[.bool false, .slice none 0 0, .slice none 0 0] 33))) (bda _ (.cells #[.bool false, .slice none 0 0, .slice none 0 0] 33))) (bda _ (.cells #[.bool true, .slice none 0 0, .slice none 0 0] 33))) (bda _ (.cells #[.bool true, .slice none 0 0, .slice none 0 0] 33)); simpa using this)
  have RP := Lib.hid (show W.heap[w.heap.size + 1]? = some (.cells #[.bool false, .slice none 0 0, .slice none 0 0] 33 (0, 0)) by rw [hW]; have := row_on (row_on (row_on (heap_alloc_new (w.alloc (.cells #[.bool true, .slice (some ⟨bm, om, none⟩) ks.length c, .slice B ds.length d] 33)) (.cells #[.bool false, .slice none 0 0, .slice none 0 0] 33)) (bda _ (.cells #[.bool false, .slice none 0 0, .slice none 0 0] 33))) (bda _ (.cells #[.bool true, .slice none 0 0, .slice none 0 0] 33))) (bda _ (.cells #[.bool true, .slice none 0 0, .slice none 0 0] 33)); simpa using this)
  have RQ := Lib.hid (show W.heap[w.heap.size + 2]? = some (.cells #[.bool false, .slice none 0 0, .slice none 0 0] 33 (0, 0)) by rw [hW]; have := row_on (row_on (heap_alloc_new ((w.alloc (.cells #[.bool true, .slice (some ⟨bm, om, none⟩) ks.length c, .slice B ds.length d] 33)).alloc (.cells #[.bool false, .slice none 0 0, .slice none 0 0] 33)) (.cells #[.bool false, .slice none 0 0, .slice none 0 0] 33)) (bda _ (.cells #[.bool true, .slice none 0 0, .slice none 0 0] 33))) (bda _ (.cells #[.bool true, .slice none 0 0, .slice none 0 0] 33)); simpa using this)
  have RA := Lib.hid (show W.heap[w.heap.size + 3]? = some (.cells #[.bool true, .slice none 0 0, .slice none 0 0] 33 (0, 0)) by rw [hW]; have := row_on (heap_alloc_new (((w.alloc (.cells #[.bool true, .slice (some ⟨bm, om, none⟩) ks.length c, .slice B ds.length d] 33)).alloc (.cells #[.bool false, .slice none 0 0, .slice none 0 0] 33)).alloc (.cells #[.bool false, .slice none 0 0, .slice none 0 0] 33)) (.cells #[.bool true, .slice none 0 0, .slice none 0 0] 33)) (bda _ (.cells #[.bool true, .slice none 0 0, .slice none 0 0] 33)); simpa using this)
  have RB := Lib.hid (show W.heap[w.heap.size + 4]? = some (.cells #[.bool true, .slice none 0 0, .slice none 0 0] 33 (0, 0)) by rw [hW]; have := heap_alloc_new ((((w.alloc (.cells #[.bool true, .slice (some ⟨bm, om, none⟩) ks.length c, .slice B ds.length d] 33)).alloc (.cells #[.bool false, .slice none 0 0, .slice none 0 0] 33)).alloc (.cells #[.bool false, .slice none 0 0, .slice none 0 0] 33)).alloc (.cells #[.bool true, .slice none 0 0, .slice none 0 0] 33)) (.cells #[.bool true, .slice none 0 0, .slice none 0 0] 33); simpa using this)
  have BX := Lib.hid (Bx.fresh (w := w) (base := w.heap.size + 5) RA.out (show Below w.heap.size w W by rw [hW]; exact bon (bon (bon (bon (bda _ _) (bda _ _)) (bda _ _)) (bda _ _)) (bda _ _)) (heap_lt RB.out) ⟨by omega, by omega⟩)
  have HW := Lib.hid hW
  clear hW RA h h2 hl hsd h4 hn0 hn1 hm e1 e2 q1 q2 E1 E2 Q1 Q2 rka rda rkb rdb hbm hcm k0 k1
  go_enter Try.func31, Try.ntmps31
  go_upto_region 6 with (fail)
  rw [← HW.out]
  try rw [g5]
  try rw [g5]
  clear HW g1 g2 g3 g4 g5
  refine wp_operands (W := W) rfl 6 [25, 26, 27, 28, 29, 30] (fun i u x => match i with | 0 => u = .pointer (some ⟨w.heap.size + 3, 1, none⟩) | 1 => u = .slice none 0 0 | 2 => u = .pointer (some ⟨w.heap.size, 1, none⟩) | 3 => u = .slice (some ⟨bm, om, none⟩) ks.length c | 4 => u = .int .i64 (n0 : Int) | 5 => u = .slice Ka (n0) ca | _ => True) (fun _ => false)
    (by decide) rfl (by kernel_rfl) (by kernel_rfl) (by decide) (by kernel_rfl) ?_ (fun _ _ _ h => by cases h) ?_ ?_
  · intro i u x x' hi hR hb'
    have hi' : i = 0 ∨ i = 1 ∨ i = 2 ∨ i = 3 ∨ i = 4 ∨ i = 5 := by omega
    rcases hi' with rfl | rfl | rfl | rfl | rfl | rfl
    · exact hR
    · exact hR
    · exact hR
    · exact hR
    · exact hR
    · exact hR
  · intro i av x K hi hF hb' hw hK
    have hi' : i = 0 ∨ i = 1 ∨ i = 2 ∨ i = 3 ∨ i = 4 ∨ i = 5 := by omega
    rcases hi' with rfl | rfl | rfl | rfl | rfl | rfl
    · simp only [wpOp, List.getElem?_toArray, List.getElem?_cons_zero, Region.wanted, if_true]
      refine Or.inl ?_
      have e0 : av.tmps.getD 7 undef = .pointer (some ⟨w.heap.size + 3, 0, none⟩) := hF.2.2 7 (by decide)
      have e0e : av.eval (.tmp 7) = .pointer (some ⟨w.heap.size + 3, 0, none⟩) := e0
      have e0g : av.tmps[7]?.getD undef = .pointer (some ⟨w.heap.size + 3, 0, none⟩) := by have := e0; simp only [Array.getD_eq_getD_getElem?] at this; exact this
      clear hw hF
      simp only [Oper.wp, execOp]
      try simp only [e0e]
      go_simp
      exact hK _ x (by first | rfl | (simp only [Nat.add_zero]; done) | (congr 1; omega)) (Below.refl _ _) (fun h => by cases h)
    · simp only [wpOp, List.getElem?_toArray, List.getElem?_cons_succ, List.getElem?_cons_zero, Region.wanted, if_true]
      refine Or.inl ?_
      have e0 : av.tmps.getD 25 undef = .pointer (some ⟨w.heap.size + 3, 1, none⟩) := (hw 0 (by kernel_rfl))
      have e0e : av.eval (.tmp 25) = .pointer (some ⟨w.heap.size + 3, 1, none⟩) := e0
      have e0g : av.tmps[25]?.getD undef = .pointer (some ⟨w.heap.size + 3, 1, none⟩) := by have := e0; simp only [Array.getD_eq_getD_getElem?] at this; exact this
      obtain ⟨fo0, fo1, fo2⟩ := BX.out.f hb'
      clear hw hF
      simp only [Oper.wp, execOp]
      try simp only [e0e]
      go_simp
      exact hK _ x (by first | rfl | (simp only [Nat.add_zero]; done) | (congr 1; omega)) (Below.refl _ _) (fun h => by cases h)
    · simp only [wpOp, List.getElem?_toArray, List.getElem?_cons_succ, List.getElem?_cons_zero, Region.wanted, if_true]
      refine Or.inl ?_
      have e0 : av.tmps.getD 1 undef = .pointer (some ⟨w.heap.size, 0, none⟩) := hF.2.2 1 (by decide)
      have e0e : av.eval (.tmp 1) = .pointer (some ⟨w.heap.size, 0, none⟩) := e0
      have e0g : av.tmps[1]?.getD undef = .pointer (some ⟨w.heap.size, 0, none⟩) := by have := e0; simp only [Array.getD_eq_getD_getElem?] at this; exact this
      clear hw hF
      simp only [Oper.wp, execOp]
      try simp only [e0e]
      go_simp
      exact hK _ x (by first | rfl | (simp only [Nat.add_zero]; done) | (congr 1; omega)) (Below.refl _ _) (fun h => by cases h)
    · simp only [wpOp, List.getElem?_toArray, List.getElem?_cons_succ, List.getElem?_cons_zero, Region.wanted, if_true]
      refine Or.inl ?_
      have e0 : av.tmps.getD 27 undef = .pointer (some ⟨w.heap.size, 1, none⟩) := (hw 2 (by kernel_rfl))
      have e0e : av.eval (.tmp 27) = .pointer (some ⟨w.heap.size, 1, none⟩) := e0
      have e0g : av.tmps[27]?.getD undef = .pointer (some ⟨w.heap.size, 1, none⟩) := by have := e0; simp only [Array.getD_eq_getD_getElem?] at this; exact this
      have fn := row_c (row_on RW.out hb') (i := 1) rfl
      clear hw hF
      simp only [Oper.wp, execOp]
      try simp only [e0e]
      go_simp
      exact hK _ x (by first | rfl | (simp only [Nat.add_zero]; done) | (congr 1; omega)) (Below.refl _ _) (fun h => by cases h)
    · simp only [wpOp, List.getElem?_toArray, List.getElem?_cons_succ, List.getElem?_cons_zero, Region.wanted, if_true]
      refine Or.inl ?_
      have e0 : av.tmps.getD 6 undef = .int .i64 (n0 : Int) := hF.2.2 6 (by decide)
      have e0e : av.eval (.tmp 6) = .int .i64 (n0 : Int) := e0
      have e0g : av.tmps[6]?.getD undef = .int .i64 (n0 : Int) := by have := e0; simp only [Array.getD_eq_getD_getElem?] at this; exact this
      clear hw hF
      simp only [Oper.wp, execOp]
      try simp only [e0e]
      go_simp
      exact hK _ x (by first | rfl | (simp only [Nat.add_zero]; done) | (congr 1; omega)) (Below.refl _ _) (fun h => by cases h)
    · simp only [wpOp, List.getElem?_toArray, List.getElem?_cons_succ, List.getElem?_cons_zero, Region.wanted, if_true]
      refine Or.inl ?_
      have e0 : av.tmps.getD 28 undef = .slice (some ⟨bm, om, none⟩) ks.length c := (hw 3 (by kernel_rfl))
      have e0e : av.eval (.tmp 28) = .slice (some ⟨bm, om, none⟩) ks.length c := e0
      have e0g : av.tmps[28]?.getD undef = .slice (some ⟨bm, om, none⟩) ks.length c := by have := e0; simp only [Array.getD_eq_getD_getElem?] at this; exact this
      have e1 : av.tmps.getD 29 undef = .int .i64 (n0 : Int) := (hw 4 (by kernel_rfl))
      have e1e : av.eval (.tmp 29) = .int .i64 (n0 : Int) := e1
      have e1g : av.tmps[29]?.getD undef = .int .i64 (n0 : Int) := by have := e1; simp only [Array.getD_eq_getD_getElem?] at this; exact this
      clear hw hF
      simp only [Oper.wp, execOp]
      try simp only [e0e, e1e]
      go_simp
      exact hK _ x (by first | rfl | (simp only [Nat.add_zero]; done) | (congr 1; omega)) (Below.refl _ _) (fun h => by cases h)
  intro av x hF hb' hR _
  have e0 : av.tmps.getD 25 undef = .pointer (some ⟨w.heap.size + 3, 1, none⟩) := hR 0 (by decide)
  have e1 : av.tmps.getD 26 undef = .slice none 0 0 := hR 1 (by decide)
  have e2 : av.tmps.getD 27 undef = .pointer (some ⟨w.heap.size, 1, none⟩) := hR 2 (by decide)
  have e3 : av.tmps.getD 28 undef = .slice (some ⟨bm, om, none⟩) ks.length c := hR 3 (by decide)
  have e4 : av.tmps.getD 29 undef = .int .i64 (n0 : Int) := hR 4 (by decide)
  have e5 : av.tmps.getD 30 undef = .slice Ka (n0) ca := hR 5 (by decide)
  rw [hF.fold (by kernel_rfl)]
  simp only [List.foldl_cons, List.foldl_nil, e0, e1, e2, e3, e4, e5]
  simp only [Act.put, List.setIfInBounds_toArray, List.set_cons_zero, List.set_cons_succ]
  change wpOps _ _ _ [6, 7, 8] _ _
  simp only [wpOps_cons]
  clear e0 e1 e2 e3 e4 e5 hR hF
  have BY := Lib.hid (BX.out.below hb')
  have RW := Lib.hid (row_on RW.out hb')
  have RP := Lib.hid (row_on RP.out hb')
  have RQ := Lib.hid (row_on RQ.out hb')
  have RB := Lib.hid (row_on RB.out hb')
  clear hb'
  simp only [wpOp, List.getElem?_toArray, List.getElem?_cons_succ, List.getElem?_cons_zero, Region.wanted, if_true]
  refine Or.inl ?_
  refine wp_append2 sv_one et_s (.tmp 26) (.tmp 30) rfl (w.heap.size + 5) (.slice none 0 0) ([] : List (List UInt8)) y1 Z1 Ka ca (n0) rfl BY.out.o1 (RKA.out _ BY.out.kb) L1.out rfl EK.out.1 BN.out.1 BY.out.bz ?_
  intro A9 c9 x9 ho9 hg9 hn9
  obtain ⟨ABX1, hA2⟩ : ∃ z, A9 = z := ⟨_, rfl⟩
  obtain ⟨cBX1, hc2⟩ : ∃ z, c9 = z := ⟨_, rfl⟩
  rw [hA2, hc2] at ho9 hn9 ⊢
  have BN := Lib.hid (BY.out.push1 ho9 hg9 hn9)
  have N9 := Lib.hid (BY.out.row1 hg9 BY.out.lt.2 BY.out.row)
  obtain ⟨VBX1, hU⟩ : ∃ U : World, U = x9.setCell ⟨w.heap.size + 3, 1, none⟩ (.slice ABX1 Z1.length cBX1) := ⟨_, rfl⟩
  rw [← hU] at BN
  have RWz := Lib.hid (show VBX1.heap[w.heap.size]? = some _ by rw [hU]; exact row_far (BY.out.row1 hg9 (by omega) RW.out) (by omega) _)
  have RPz := Lib.hid (show VBX1.heap[w.heap.size + 1]? = some _ by rw [hU]; exact row_far (BY.out.row1 hg9 (by omega) RP.out) (by omega) _)
  have RQz := Lib.hid (show VBX1.heap[w.heap.size + 2]? = some _ by rw [hU]; exact row_far (BY.out.row1 hg9 (by omega) RQ.out) (by omega) _)
  have RBz := Lib.hid (show VBX1.heap[w.heap.size + 4]? = some _ by rw [hU]; exact row_far (BY.out.row1 hg9 (by omega) RB.out) (by omega) _)
  have f9 := row_c N9.out (i := 1) rfl
  have q9 := frozen_of_row _ _ 1 _ _ N9.out
  clear ho9 hg9 hn9 hA2 hc2 BY N9 BX RW RP RQ RB
  have BX := BN
  clear BN
  have RW := RWz
  clear RWz
  have RP := RPz
  clear RPz
  have RQ := RQz
  clear RQz
  have RB := RBz
  clear RBz
  go_simp
  try rw [wpOps_cons]
  simp only [wpOp, List.getElem?_toArray, List.getElem?_cons_succ, List.getElem?_cons_zero, Region.wanted, if_true]
  refine Or.inl ?_
  simp only [Oper.wp, execOp]
  go_simp
  try rw [wpOps_cons]
  simp only [wpOp, List.getElem?_toArray, List.getElem?_cons_succ, List.getElem?_cons_zero, Region.wanted, if_true]
  refine Or.inl ?_
  simp only [Oper.wp, execOp]
  go_simp
  try simp only [wpOps]
  rw [← hU]
  clear hU f9 q9
  have f0 := row_c RW.out (i := 0) rfl
  go_upto_region 8 with (fail)
  clear f0
  refine wp_operands (W := VBX1) rfl 6 [35, 36, 37, 38, 39, 40] (fun i u x => match i with | 0 => u = .pointer (some ⟨w.heap.size + 3, 2, none⟩) | 1 => u = .slice none 0 0 | 2 => u = .pointer (some ⟨w.heap.size, 2, none⟩) | 3 => u = .slice B ds.length d | 4 => u = .int .i64 (n0 : Int) | 5 => u = .slice Da (n0) da | _ => True) (fun _ => false)
    (by decide) rfl (by kernel_rfl) (by kernel_rfl) (by decide) (by kernel_rfl) ?_ (fun _ _ _ h => by cases h) ?_ ?_
  · intro i u x x' hi hR hb'
    have hi' : i = 0 ∨ i = 1 ∨ i = 2 ∨ i = 3 ∨ i = 4 ∨ i = 5 := by omega
    rcases hi' with rfl | rfl | rfl | rfl | rfl | rfl
    · exact hR
    · exact hR
    · exact hR
    · exact hR
    · exact hR
    · exact hR
  · intro i av x K hi hF hb' hw hK
    have hi' : i = 0 ∨ i = 1 ∨ i = 2 ∨ i = 3 ∨ i = 4 ∨ i = 5 := by omega
    rcases hi' with rfl | rfl | rfl | rfl | rfl | rfl
    · simp only [wpOp, List.getElem?_toArray, List.getElem?_cons_zero, Region.wanted, if_true]
      refine Or.inl ?_
      have e0 : av.tmps.getD 7 undef = .pointer (some ⟨w.heap.size + 3, 0, none⟩) := hF.2.2 7 (by decide)
      have e0e : av.eval (.tmp 7) = .pointer (some ⟨w.heap.size + 3, 0, none⟩) := e0
      have e0g : av.tmps[7]?.getD undef = .pointer (some ⟨w.heap.size + 3, 0, none⟩) := by have := e0; simp only [Array.getD_eq_getD_getElem?] at this; exact this
      clear hw hF
      simp only [Oper.wp, execOp]
      try simp only [e0e]
      go_simp
      exact hK _ x (by first | rfl | (simp only [Nat.add_zero]; done) | (congr 1; omega)) (Below.refl _ _) (fun h => by cases h)
    · simp only [wpOp, List.getElem?_toArray, List.getElem?_cons_succ, List.getElem?_cons_zero, Region.wanted, if_true]
      refine Or.inl ?_
      have e0 : av.tmps.getD 35 undef = .pointer (some ⟨w.heap.size + 3, 2, none⟩) := (hw 0 (by kernel_rfl))
      have e0e : av.eval (.tmp 35) = .pointer (some ⟨w.heap.size + 3, 2, none⟩) := e0
      have e0g : av.tmps[35]?.getD undef = .pointer (some ⟨w.heap.size + 3, 2, none⟩) := by have := e0; simp only [Array.getD_eq_getD_getElem?] at this; exact this
      obtain ⟨fo0, fo1, fo2⟩ := BX.out.f hb'
      clear hw hF
      simp only [Oper.wp, execOp]
      try simp only [e0e]
      go_simp
      exact hK _ x (by first | rfl | (simp only [Nat.add_zero]; done) | (congr 1; omega)) (Below.refl _ _) (fun h => by cases h)
    · simp only [wpOp, List.getElem?_toArray, List.getElem?_cons_succ, List.getElem?_cons_zero, Region.wanted, if_true]
      refine Or.inl ?_
      have e0 : av.tmps.getD 1 undef = .pointer (some ⟨w.heap.size, 0, none⟩) := hF.2.2 1 (by decide)
      have e0e : av.eval (.tmp 1) = .pointer (some ⟨w.heap.size, 0, none⟩) := e0
      have e0g : av.tmps[1]?.getD undef = .pointer (some ⟨w.heap.size, 0, none⟩) := by have := e0; simp only [Array.getD_eq_getD_getElem?] at this; exact this
      clear hw hF
      simp only [Oper.wp, execOp]
      try simp only [e0e]
      go_simp
      exact hK _ x (by first | rfl | (simp only [Nat.add_zero]; done) | (congr 1; omega)) (Below.refl _ _) (fun h => by cases h)
    · simp only [wpOp, List.getElem?_toArray, List.getElem?_cons_succ, List.getElem?_cons_zero, Region.wanted, if_true]
      refine Or.inl ?_
      have e0 : av.tmps.getD 37 undef = .pointer (some ⟨w.heap.size, 2, none⟩) := (hw 2 (by kernel_rfl))
      have e0e : av.eval (.tmp 37) = .pointer (some ⟨w.heap.size, 2, none⟩) := e0
      have e0g : av.tmps[37]?.getD undef = .pointer (some ⟨w.heap.size, 2, none⟩) := by have := e0; simp only [Array.getD_eq_getD_getElem?] at this; exact this
      have fn := row_c (row_on RW.out hb') (i := 2) rfl
      clear hw hF
      simp only [Oper.wp, execOp]
      try simp only [e0e]
      go_simp
      exact hK _ x (by first | rfl | (simp only [Nat.add_zero]; done) | (congr 1; omega)) (Below.refl _ _) (fun h => by cases h)
    · simp only [wpOp, List.getElem?_toArray, List.getElem?_cons_succ, List.getElem?_cons_zero, Region.wanted, if_true]
      refine Or.inl ?_
      have e0 : av.tmps.getD 6 undef = .int .i64 (n0 : Int) := hF.2.2 6 (by decide)
      have e0e : av.eval (.tmp 6) = .int .i64 (n0 : Int) := e0
      have e0g : av.tmps[6]?.getD undef = .int .i64 (n0 : Int) := by have := e0; simp only [Array.getD_eq_getD_getElem?] at this; exact this
      clear hw hF
      simp only [Oper.wp, execOp]
      try simp only [e0e]
      go_simp
      exact hK _ x (by first | rfl | (simp only [Nat.add_zero]; done) | (congr 1; omega)) (Below.refl _ _) (fun h => by cases h)
    · simp only [wpOp, List.getElem?_toArray, List.getElem?_cons_succ, List.getElem?_cons_zero, Region.wanted, if_true]
      refine Or.inl ?_
      have e0 : av.tmps.getD 38 undef = .slice B ds.length d := (hw 3 (by kernel_rfl))
      have e0e : av.eval (.tmp 38) = .slice B ds.length d := e0
      have e0g : av.tmps[38]?.getD undef = .slice B ds.length d := by have := e0; simp only [Array.getD_eq_getD_getElem?] at this; exact this
      have e1 : av.tmps.getD 39 undef = .int .i64 (n0 : Int) := (hw 4 (by kernel_rfl))
      have e1e : av.eval (.tmp 39) = .int .i64 (n0 : Int) := e1
      have e1g : av.tmps[39]?.getD undef = .int .i64 (n0 : Int) := by have := e1; simp only [Array.getD_eq_getD_getElem?] at this; exact this
      clear hw hF
      simp only [Oper.wp, execOp]
      try simp only [e0e, e1e]
      go_simp
      exact hK _ x (by first | rfl | (simp only [Nat.add_zero]; done) | (congr 1; omega)) (Below.refl _ _) (fun h => by cases h)
  intro av x hF hb' hR _
  have e0 : av.tmps.getD 35 undef = .pointer (some ⟨w.heap.size + 3, 2, none⟩) := hR 0 (by decide)
  have e1 : av.tmps.getD 36 undef = .slice none 0 0 := hR 1 (by decide)
  have e2 : av.tmps.getD 37 undef = .pointer (some ⟨w.heap.size, 2, none⟩) := hR 2 (by decide)
  have e3 : av.tmps.getD 38 undef = .slice B ds.length d := hR 3 (by decide)
  have e4 : av.tmps.getD 39 undef = .int .i64 (n0 : Int) := hR 4 (by decide)
  have e5 : av.tmps.getD 40 undef = .slice Da (n0) da := hR 5 (by decide)
  rw [hF.fold (by kernel_rfl)]
  simp only [List.foldl_cons, List.foldl_nil, e0, e1, e2, e3, e4, e5]
  simp only [Act.put, List.setIfInBounds_toArray, List.set_cons_zero, List.set_cons_succ]
  change wpOps _ _ _ [6, 7, 8] _ _
  simp only [wpOps_cons]
  clear e0 e1 e2 e3 e4 e5 hR hF
  have BY := Lib.hid (BX.out.below hb')
  have RW := Lib.hid (row_on RW.out hb')
  have RP := Lib.hid (row_on RP.out hb')
  have RQ := Lib.hid (row_on RQ.out hb')
  have RB := Lib.hid (row_on RB.out hb')
  clear hb'
  simp only [wpOp, List.getElem?_toArray, List.getElem?_cons_succ, List.getElem?_cons_zero, Region.wanted, if_true]
  refine Or.inl ?_
  refine wp_append2 nv_one et_i (.tmp 36) (.tmp 40) rfl (w.heap.size + 5) (.slice none 0 0) ([] : List Int) u1 X1 Da da (n0) rfl BY.out.o2 (RDA.out _ BY.out.kb) L2.out rfl EQ.out.1 BN.out.2.2.1 BY.out.bz ?_
  intro A9 c9 x9 ho9 hg9 hn9
  obtain ⟨ABX2, hA2⟩ : ∃ z, A9 = z := ⟨_, rfl⟩
  obtain ⟨cBX2, hc2⟩ : ∃ z, c9 = z := ⟨_, rfl⟩
  rw [hA2, hc2] at ho9 hn9 ⊢
  have BN := Lib.hid (BY.out.push2 ho9 hg9 hn9)
  have N9 := Lib.hid (BY.out.row2 hg9 BY.out.lt.2 BY.out.row)
  obtain ⟨VBX2, hU⟩ : ∃ U : World, U = x9.setCell ⟨w.heap.size + 3, 2, none⟩ (.slice ABX2 X1.length cBX2) := ⟨_, rfl⟩
  rw [← hU] at BN
  have RWz := Lib.hid (show VBX2.heap[w.heap.size]? = some _ by rw [hU]; exact row_far (BY.out.row2 hg9 (by omega) RW.out) (by omega) _)
  have RPz := Lib.hid (show VBX2.heap[w.heap.size + 1]? = some _ by rw [hU]; exact row_far (BY.out.row2 hg9 (by omega) RP.out) (by omega) _)
  have RQz := Lib.hid (show VBX2.heap[w.heap.size + 2]? = some _ by rw [hU]; exact row_far (BY.out.row2 hg9 (by omega) RQ.out) (by omega) _)
  have RBz := Lib.hid (show VBX2.heap[w.heap.size + 4]? = some _ by rw [hU]; exact row_far (BY.out.row2 hg9 (by omega) RB.out) (by omega) _)
  have f9 := row_c N9.out (i := 2) rfl
  have q9 := frozen_of_row _ _ 2 _ _ N9.out
  clear ho9 hg9 hn9 hA2 hc2 BY N9 BX RW RP RQ RB
  have BX := BN
  clear BN
  have RW := RWz
  clear RWz
  have RP := RPz
  clear RPz
  have RQ := RQz
  clear RQz
  have RB := RBz
  clear RBz
  go_simp
  try rw [wpOps_cons]
  simp only [wpOp, List.getElem?_toArray, List.getElem?_cons_succ, List.getElem?_cons_zero, Region.wanted, if_true]
  refine Or.inl ?_
  simp only [Oper.wp, execOp]
  go_simp
  try rw [wpOps_cons]
  simp only [wpOp, List.getElem?_toArray, List.getElem?_cons_succ, List.getElem?_cons_zero, Region.wanted, if_true]
  refine Or.inl ?_
  simp only [Oper.wp, execOp]
  go_simp
  try simp only [wpOps]
  rw [← hU]
  clear hU f9 q9
  have VA := Lib.hid BX.out.ol
  have BXb := Lib.hid (Bx.fresh (w := w) (base := VBX2.heap.size) RB.out BX.out.kb (Nat.le_refl _) ⟨by omega, by have := BX.out.bz; omega⟩)
  have RA := Lib.hid BX.out.row
  have hbz := BX.out.bz
  clear BX RB
  have BX := BXb
  clear BXb
  obtain ⟨b2, hb2⟩ : ∃ n, VBX2.heap.size = n := ⟨_, rfl⟩
  rw [hb2] at BX VA hbz
  clear hb2
  go_upto_region 9 with (fail)
  refine wp_operands (W := VBX2) rfl 6 [43, 44, 45, 46, 47, 48] (fun i u x => match i with | 0 => u = .pointer (some ⟨w.heap.size + 4, 1, none⟩) | 1 => u = .slice none 0 0 | 2 => u = .pointer (some ⟨w.heap.size, 1, none⟩) | 3 => u = .slice (some ⟨bm, om, none⟩) ks.length c | 4 => u = .int .i64 (n0 : Int) | 5 => u = .slice Kb (ks.length - n0) cb | _ => True) (fun _ => false)
    (by decide) rfl (by kernel_rfl) (by kernel_rfl) (by decide) (by kernel_rfl) ?_ (fun _ _ _ h => by cases h) ?_ ?_
  · intro i u x x' hi hR hb'
    have hi' : i = 0 ∨ i = 1 ∨ i = 2 ∨ i = 3 ∨ i = 4 ∨ i = 5 := by omega
    rcases hi' with rfl | rfl | rfl | rfl | rfl | rfl
    · exact hR
    · exact hR
    · exact hR
    · exact hR
    · exact hR
    · exact hR
  · intro i av x K hi hF hb' hw hK
    have hi' : i = 0 ∨ i = 1 ∨ i = 2 ∨ i = 3 ∨ i = 4 ∨ i = 5 := by omega
    rcases hi' with rfl | rfl | rfl | rfl | rfl | rfl
    · simp only [wpOp, List.getElem?_toArray, List.getElem?_cons_zero, Region.wanted, if_true]
      refine Or.inl ?_
      have e0 : av.tmps.getD 8 undef = .pointer (some ⟨w.heap.size + 4, 0, none⟩) := hF.2.2 8 (by decide)
      have e0e : av.eval (.tmp 8) = .pointer (some ⟨w.heap.size + 4, 0, none⟩) := e0
      have e0g : av.tmps[8]?.getD undef = .pointer (some ⟨w.heap.size + 4, 0, none⟩) := by have := e0; simp only [Array.getD_eq_getD_getElem?] at this; exact this
      clear hw hF
      simp only [Oper.wp, execOp]
      try simp only [e0e]
      go_simp
      exact hK _ x (by first | rfl | (simp only [Nat.add_zero]; done) | (congr 1; omega)) (Below.refl _ _) (fun h => by cases h)
    · simp only [wpOp, List.getElem?_toArray, List.getElem?_cons_succ, List.getElem?_cons_zero, Region.wanted, if_true]
      refine Or.inl ?_
      have e0 : av.tmps.getD 43 undef = .pointer (some ⟨w.heap.size + 4, 1, none⟩) := (hw 0 (by kernel_rfl))
      have e0e : av.eval (.tmp 43) = .pointer (some ⟨w.heap.size + 4, 1, none⟩) := e0
      have e0g : av.tmps[43]?.getD undef = .pointer (some ⟨w.heap.size + 4, 1, none⟩) := by have := e0; simp only [Array.getD_eq_getD_getElem?] at this; exact this
      obtain ⟨fo0, fo1, fo2⟩ := BX.out.f hb'
      clear hw hF
      simp only [Oper.wp, execOp]
      try simp only [e0e]
      go_simp
      exact hK _ x (by first | rfl | (simp only [Nat.add_zero]; done) | (congr 1; omega)) (Below.refl _ _) (fun h => by cases h)
    · simp only [wpOp, List.getElem?_toArray, List.getElem?_cons_succ, List.getElem?_cons_zero, Region.wanted, if_true]
      refine Or.inl ?_
      have e0 : av.tmps.getD 1 undef = .pointer (some ⟨w.heap.size, 0, none⟩) := hF.2.2 1 (by decide)
      have e0e : av.eval (.tmp 1) = .pointer (some ⟨w.heap.size, 0, none⟩) := e0
      have e0g : av.tmps[1]?.getD undef = .pointer (some ⟨w.heap.size, 0, none⟩) := by have := e0; simp only [Array.getD_eq_getD_getElem?] at this; exact this
      clear hw hF
      simp only [Oper.wp, execOp]
      try simp only [e0e]
      go_simp
      exact hK _ x (by first | rfl | (simp only [Nat.add_zero]; done) | (congr 1; omega)) (Below.refl _ _) (fun h => by cases h)
    · simp only [wpOp, List.getElem?_toArray, List.getElem?_cons_succ, List.getElem?_cons_zero, Region.wanted, if_true]
      refine Or.inl ?_
      have e0 : av.tmps.getD 45 undef = .pointer (some ⟨w.heap.size, 1, none⟩) := (hw 2 (by kernel_rfl))
      have e0e : av.eval (.tmp 45) = .pointer (some ⟨w.heap.size, 1, none⟩) := e0
      have e0g : av.tmps[45]?.getD undef = .pointer (some ⟨w.heap.size, 1, none⟩) := by have := e0; simp only [Array.getD_eq_getD_getElem?] at this; exact this
      have fn := row_c (row_on RW.out hb') (i := 1) rfl
      clear hw hF
      simp only [Oper.wp, execOp]
      try simp only [e0e]
      go_simp
      exact hK _ x (by first | rfl | (simp only [Nat.add_zero]; done) | (congr 1; omega)) (Below.refl _ _) (fun h => by cases h)
    · simp only [wpOp, List.getElem?_toArray, List.getElem?_cons_succ, List.getElem?_cons_zero, Region.wanted, if_true]
      refine Or.inl ?_
      have e0 : av.tmps.getD 6 undef = .int .i64 (n0 : Int) := hF.2.2 6 (by decide)
      have e0e : av.eval (.tmp 6) = .int .i64 (n0 : Int) := e0
      have e0g : av.tmps[6]?.getD undef = .int .i64 (n0 : Int) := by have := e0; simp only [Array.getD_eq_getD_getElem?] at this; exact this
      clear hw hF
      simp only [Oper.wp, execOp]
      try simp only [e0e]
      go_simp
      exact hK _ x (by first | rfl | (simp only [Nat.add_zero]; done) | (congr 1; omega)) (Below.refl _ _) (fun h => by cases h)
    · simp only [wpOp, List.getElem?_toArray, List.getElem?_cons_succ, List.getElem?_cons_zero, Region.wanted, if_true]
      refine Or.inl ?_
      have e0 : av.tmps.getD 46 undef = .slice (some ⟨bm, om, none⟩) ks.length c := (hw 3 (by kernel_rfl))
      have e0e : av.eval (.tmp 46) = .slice (some ⟨bm, om, none⟩) ks.length c := e0
      have e0g : av.tmps[46]?.getD undef = .slice (some ⟨bm, om, none⟩) ks.length c := by have := e0; simp only [Array.getD_eq_getD_getElem?] at this; exact this
      have e1 : av.tmps.getD 47 undef = .int .i64 (n0 : Int) := (hw 4 (by kernel_rfl))
      have e1e : av.eval (.tmp 47) = .int .i64 (n0 : Int) := e1
      have e1g : av.tmps[47]?.getD undef = .int .i64 (n0 : Int) := by have := e1; simp only [Array.getD_eq_getD_getElem?] at this; exact this
      clear hw hF
      simp only [Oper.wp, execOp]
      try simp only [e0e, e1e]
      go_simp
      exact hK _ x (by first | rfl | (simp only [Nat.add_zero]; done) | (congr 1; omega)) (Below.refl _ _) (fun h => by cases h)
  intro av x hF hb' hR _
  have e0 : av.tmps.getD 43 undef = .pointer (some ⟨w.heap.size + 4, 1, none⟩) := hR 0 (by decide)
  have e1 : av.tmps.getD 44 undef = .slice none 0 0 := hR 1 (by decide)
  have e2 : av.tmps.getD 45 undef = .pointer (some ⟨w.heap.size, 1, none⟩) := hR 2 (by decide)
  have e3 : av.tmps.getD 46 undef = .slice (some ⟨bm, om, none⟩) ks.length c := hR 3 (by decide)
  have e4 : av.tmps.getD 47 undef = .int .i64 (n0 : Int) := hR 4 (by decide)
  have e5 : av.tmps.getD 48 undef = .slice Kb (ks.length - n0) cb := hR 5 (by decide)
  rw [hF.fold (by kernel_rfl)]
  simp only [List.foldl_cons, List.foldl_nil, e0, e1, e2, e3, e4, e5]
  simp only [Act.put, List.setIfInBounds_toArray, List.set_cons_zero, List.set_cons_succ]
  change wpOps _ _ _ [6, 7, 8] _ _
  simp only [wpOps_cons]
  clear e0 e1 e2 e3 e4 e5 hR hF
  have BY := Lib.hid (BX.out.below hb')
  have RW := Lib.hid (row_on RW.out hb')
  have RP := Lib.hid (row_on RP.out hb')
  have RQ := Lib.hid (row_on RQ.out hb')
  have RA := Lib.hid (row_on RA.out hb')
  have VA := Lib.hid (And.intro (VA.out.1.below hb') (VA.out.2.below hb'))
  clear hb'
  simp only [wpOp, List.getElem?_toArray, List.getElem?_cons_succ, List.getElem?_cons_zero, Region.wanted, if_true]
  refine Or.inl ?_
  refine wp_append2 sv_one et_s (.tmp 44) (.tmp 48) rfl b2 (.slice none 0 0) ([] : List (List UInt8)) y2 Z2 Kb cb (ks.length - n0) rfl BY.out.o1 (RKB.out _ BY.out.kb) L3.out rfl EK.out.2 BN.out.2.1 BY.out.bz ?_
  intro A9 c9 x9 ho9 hg9 hn9
  obtain ⟨ABX3, hA2⟩ : ∃ z, A9 = z := ⟨_, rfl⟩
  obtain ⟨cBX3, hc2⟩ : ∃ z, c9 = z := ⟨_, rfl⟩
  rw [hA2, hc2] at ho9 hn9 ⊢
  have BN := Lib.hid (BY.out.push1 ho9 hg9 hn9)
  have N9 := Lib.hid (BY.out.row1 hg9 BY.out.lt.2 BY.out.row)
  obtain ⟨VBX3, hU⟩ : ∃ U : World, U = x9.setCell ⟨w.heap.size + 4, 1, none⟩ (.slice ABX3 Z2.length cBX3) := ⟨_, rfl⟩
  rw [← hU] at BN
  have RWz := Lib.hid (show VBX3.heap[w.heap.size]? = some _ by rw [hU]; exact row_far (BY.out.row1 hg9 (by omega) RW.out) (by omega) _)
  have RPz := Lib.hid (show VBX3.heap[w.heap.size + 1]? = some _ by rw [hU]; exact row_far (BY.out.row1 hg9 (by omega) RP.out) (by omega) _)
  have RQz := Lib.hid (show VBX3.heap[w.heap.size + 2]? = some _ by rw [hU]; exact row_far (BY.out.row1 hg9 (by omega) RQ.out) (by omega) _)
  have RAz := Lib.hid (show VBX3.heap[w.heap.size + 3]? = some _ by rw [hU]; exact row_far (BY.out.row1 hg9 (by omega) RA.out) (by omega) _)
  have VAz := Lib.hid (show Ol _ VBX3 _ _ _ _ _ ∧ Ol _ VBX3 _ _ _ _ _ from ⟨by rw [hU]; exact BY.out.ol1 hg9 VA.out.1 (by omega) _ _, by rw [hU]; exact BY.out.ol1 hg9 VA.out.2 (by omega) _ _⟩)
  have f9 := row_c N9.out (i := 1) rfl
  have q9 := frozen_of_row _ _ 1 _ _ N9.out
  clear ho9 hg9 hn9 hA2 hc2 BY N9 BX RW RP RQ RA VA
  have BX := BN
  clear BN
  have RW := RWz
  clear RWz
  have RP := RPz
  clear RPz
  have RQ := RQz
  clear RQz
  have RA := RAz
  clear RAz
  have VA := VAz
  clear VAz
  go_simp
  try rw [wpOps_cons]
  simp only [wpOp, List.getElem?_toArray, List.getElem?_cons_succ, List.getElem?_cons_zero, Region.wanted, if_true]
  refine Or.inl ?_
  simp only [Oper.wp, execOp]
  go_simp
  try rw [wpOps_cons]
  simp only [wpOp, List.getElem?_toArray, List.getElem?_cons_succ, List.getElem?_cons_zero, Region.wanted, if_true]
  refine Or.inl ?_
  simp only [Oper.wp, execOp]
  go_simp
  try simp only [wpOps]
  rw [← hU]
  clear hU f9 q9
  go_upto_region 10 with (fail)
  refine wp_operands (W := VBX3) rfl 6 [51, 52, 53, 54, 55, 56] (fun i u x => match i with | 0 => u = .pointer (some ⟨w.heap.size + 4, 2, none⟩) | 1 => u = .slice none 0 0 | 2 => u = .pointer (some ⟨w.heap.size, 2, none⟩) | 3 => u = .slice B ds.length d | 4 => u = .int .i64 (n0 : Int) | 5 => u = .slice Db (ds.length - n0) db | _ => True) (fun _ => false)
    (by decide) rfl (by kernel_rfl) (by kernel_rfl) (by decide) (by kernel_rfl) ?_ (fun _ _ _ h => by cases h) ?_ ?_
  · intro i u x x' hi hR hb'
    have hi' : i = 0 ∨ i = 1 ∨ i = 2 ∨ i = 3 ∨ i = 4 ∨ i = 5 := by omega
    rcases hi' with rfl | rfl | rfl | rfl | rfl | rfl
    · exact hR
    · exact hR
    · exact hR
    · exact hR
    · exact hR
    · exact hR
  · intro i av x K hi hF hb' hw hK
    have hi' : i = 0 ∨ i = 1 ∨ i = 2 ∨ i = 3 ∨ i = 4 ∨ i = 5 := by omega
    rcases hi' with rfl | rfl | rfl | rfl | rfl | rfl
    · simp only [wpOp, List.getElem?_toArray, List.getElem?_cons_zero, Region.wanted, if_true]
      refine Or.inl ?_
      have e0 : av.tmps.getD 8 undef = .pointer (some ⟨w.heap.size + 4, 0, none⟩) := hF.2.2 8 (by decide)
      have e0e : av.eval (.tmp 8) = .pointer (some ⟨w.heap.size + 4, 0, none⟩) := e0
      have e0g : av.tmps[8]?.getD undef = .pointer (some ⟨w.heap.size + 4, 0, none⟩) := by have := e0; simp only [Array.getD_eq_getD_getElem?] at this; exact this
      clear hw hF
      simp only [Oper.wp, execOp]
      try simp only [e0e]
      go_simp
      exact hK _ x (by first | rfl | (simp only [Nat.add_zero]; done) | (congr 1; omega)) (Below.refl _ _) (fun h => by cases h)
    · simp only [wpOp, List.getElem?_toArray, List.getElem?_cons_succ, List.getElem?_cons_zero, Region.wanted, if_true]
      refine Or.inl ?_
      have e0 : av.tmps.getD 51 undef = .pointer (some ⟨w.heap.size + 4, 2, none⟩) := (hw 0 (by kernel_rfl))
      have e0e : av.eval (.tmp 51) = .pointer (some ⟨w.heap.size + 4, 2, none⟩) := e0
      have e0g : av.tmps[51]?.getD undef = .pointer (some ⟨w.heap.size + 4, 2, none⟩) := by have := e0; simp only [Array.getD_eq_getD_getElem?] at this; exact this
      obtain ⟨fo0, fo1, fo2⟩ := BX.out.f hb'
      clear hw hF
      simp only [Oper.wp, execOp]
      try simp only [e0e]
      go_simp
      exact hK _ x (by first | rfl | (simp only [Nat.add_zero]; done) | (congr 1; omega)) (Below.refl _ _) (fun h => by cases h)
    · simp only [wpOp, List.getElem?_toArray, List.getElem?_cons_succ, List.getElem?_cons_zero, Region.wanted, if_true]
      refine Or.inl ?_
      have e0 : av.tmps.getD 1 undef = .pointer (some ⟨w.heap.size, 0, none⟩) := hF.2.2 1 (by decide)
      have e0e : av.eval (.tmp 1) = .pointer (some ⟨w.heap.size, 0, none⟩) := e0
      have e0g : av.tmps[1]?.getD undef = .pointer (some ⟨w.heap.size, 0, none⟩) := by have := e0; simp only [Array.getD_eq_getD_getElem?] at this; exact this
      clear hw hF
      simp only [Oper.wp, execOp]
      try simp only [e0e]
      go_simp
      exact hK _ x (by first | rfl | (simp only [Nat.add_zero]; done) | (congr 1; omega)) (Below.refl _ _) (fun h => by cases h)
    · simp only [wpOp, List.getElem?_toArray, List.getElem?_cons_succ, List.getElem?_cons_zero, Region.wanted, if_true]
      refine Or.inl ?_
      have e0 : av.tmps.getD 53 undef = .pointer (some ⟨w.heap.size, 2, none⟩) := (hw 2 (by kernel_rfl))
      have e0e : av.eval (.tmp 53) = .pointer (some ⟨w.heap.size, 2, none⟩) := e0
      have e0g : av.tmps[53]?.getD undef = .pointer (some ⟨w.heap.size, 2, none⟩) := by have := e0; simp only [Array.getD_eq_getD_getElem?] at this; exact this
      have fn := row_c (row_on RW.out hb') (i := 2) rfl
      clear hw hF
      simp only [Oper.wp, execOp]
      try simp only [e0e]
      go_simp
      exact hK _ x (by first | rfl | (simp only [Nat.add_zero]; done) | (congr 1; omega)) (Below.refl _ _) (fun h => by cases h)
    · simp only [wpOp, List.getElem?_toArray, List.getElem?_cons_succ, List.getElem?_cons_zero, Region.wanted, if_true]
      refine Or.inl ?_
      have e0 : av.tmps.getD 6 undef = .int .i64 (n0 : Int) := hF.2.2 6 (by decide)
      have e0e : av.eval (.tmp 6) = .int .i64 (n0 : Int) := e0
      have e0g : av.tmps[6]?.getD undef = .int .i64 (n0 : Int) := by have := e0; simp only [Array.getD_eq_getD_getElem?] at this; exact this
      clear hw hF
      simp only [Oper.wp, execOp]
      try simp only [e0e]
      go_simp
      exact hK _ x (by first | rfl | (simp only [Nat.add_zero]; done) | (congr 1; omega)) (Below.refl _ _) (fun h => by cases h)
    · simp only [wpOp, List.getElem?_toArray, List.getElem?_cons_succ, List.getElem?_cons_zero, Region.wanted, if_true]
      refine Or.inl ?_
      have e0 : av.tmps.getD 54 undef = .slice B ds.length d := (hw 3 (by kernel_rfl))
      have e0e : av.eval (.tmp 54) = .slice B ds.length d := e0
      have e0g : av.tmps[54]?.getD undef = .slice B ds.length d := by have := e0; simp only [Array.getD_eq_getD_getElem?] at this; exact this
      have e1 : av.tmps.getD 55 undef = .int .i64 (n0 : Int) := (hw 4 (by kernel_rfl))
      have e1e : av.eval (.tmp 55) = .int .i64 (n0 : Int) := e1
      have e1g : av.tmps[55]?.getD undef = .int .i64 (n0 : Int) := by have := e1; simp only [Array.getD_eq_getD_getElem?] at this; exact this
      clear hw hF
      simp only [Oper.wp, execOp]
      try simp only [e0e, e1e]
      go_simp
      exact hK _ x (by first | rfl | (simp only [Nat.add_zero]; done) | (congr 1; omega)) (Below.refl _ _) (fun h => by cases h)
  intro av x hF hb' hR _
  have e0 : av.tmps.getD 51 undef = .pointer (some ⟨w.heap.size + 4, 2, none⟩) := hR 0 (by decide)
  have e1 : av.tmps.getD 52 undef = .slice none 0 0 := hR 1 (by decide)
  have e2 : av.tmps.getD 53 undef = .pointer (some ⟨w.heap.size, 2, none⟩) := hR 2 (by decide)
  have e3 : av.tmps.getD 54 undef = .slice B ds.length d := hR 3 (by decide)
  have e4 : av.tmps.getD 55 undef = .int .i64 (n0 : Int) := hR 4 (by decide)
  have e5 : av.tmps.getD 56 undef = .slice Db (ds.length - n0) db := hR 5 (by decide)
  rw [hF.fold (by kernel_rfl)]
  simp only [List.foldl_cons, List.foldl_nil, e0, e1, e2, e3, e4, e5]
  simp only [Act.put, List.setIfInBounds_toArray, List.set_cons_zero, List.set_cons_succ]
  change wpOps _ _ _ [6, 7, 8] _ _
  simp only [wpOps_cons]
  clear e0 e1 e2 e3 e4 e5 hR hF
  have BY := Lib.hid (BX.out.below hb')
  have RW := Lib.hid (row_on RW.out hb')
  have RP := Lib.hid (row_on RP.out hb')
  have RQ := Lib.hid (row_on RQ.out hb')
  have RA := Lib.hid (row_on RA.out hb')
  have VA := Lib.hid (And.intro (VA.out.1.below hb') (VA.out.2.below hb'))
  clear hb'
  simp only [wpOp, List.getElem?_toArray, List.getElem?_cons_succ, List.getElem?_cons_zero, Region.wanted, if_true]
  refine Or.inl ?_
  refine wp_append2 nv_one et_i (.tmp 52) (.tmp 56) rfl b2 (.slice none 0 0) ([] : List Int) u2 X2 Db db (ds.length - n0) rfl BY.out.o2 (RDB.out _ BY.out.kb) L4.out rfl EQ.out.2 BN.out.2.2.2 BY.out.bz ?_
  intro A9 c9 x9 ho9 hg9 hn9
  obtain ⟨ABX4, hA2⟩ : ∃ z, A9 = z := ⟨_, rfl⟩
  obtain ⟨cBX4, hc2⟩ : ∃ z, c9 = z := ⟨_, rfl⟩
  rw [hA2, hc2] at ho9 hn9 ⊢
  have BN := Lib.hid (BY.out.push2 ho9 hg9 hn9)
  have N9 := Lib.hid (BY.out.row2 hg9 BY.out.lt.2 BY.out.row)
  obtain ⟨VBX4, hU⟩ : ∃ U : World, U = x9.setCell ⟨w.heap.size + 4, 2, none⟩ (.slice ABX4 X2.length cBX4) := ⟨_, rfl⟩
  rw [← hU] at BN
  have RWz := Lib.hid (show VBX4.heap[w.heap.size]? = some _ by rw [hU]; exact row_far (BY.out.row2 hg9 (by omega) RW.out) (by omega) _)
  have RPz := Lib.hid (show VBX4.heap[w.heap.size + 1]? = some _ by rw [hU]; exact row_far (BY.out.row2 hg9 (by omega) RP.out) (by omega) _)
  have RQz := Lib.hid (show VBX4.heap[w.heap.size + 2]? = some _ by rw [hU]; exact row_far (BY.out.row2 hg9 (by omega) RQ.out) (by omega) _)
  have RAz := Lib.hid (show VBX4.heap[w.heap.size + 3]? = some _ by rw [hU]; exact row_far (BY.out.row2 hg9 (by omega) RA.out) (by omega) _)
  have VAz := Lib.hid (show Ol _ VBX4 _ _ _ _ _ ∧ Ol _ VBX4 _ _ _ _ _ from ⟨by rw [hU]; exact BY.out.ol2 hg9 VA.out.1 (by omega) _ _, by rw [hU]; exact BY.out.ol2 hg9 VA.out.2 (by omega) _ _⟩)
  have f9 := row_c N9.out (i := 2) rfl
  have q9 := frozen_of_row _ _ 2 _ _ N9.out
  clear ho9 hg9 hn9 hA2 hc2 BY N9 BX RW RP RQ RA VA
  have BX := BN
  clear BN
  have RW := RWz
  clear RWz
  have RP := RPz
  clear RPz
  have RQ := RQz
  clear RQz
  have RA := RAz
  clear RAz
  have VA := VAz
  clear VAz
  go_simp
  try rw [wpOps_cons]
  simp only [wpOp, List.getElem?_toArray, List.getElem?_cons_succ, List.getElem?_cons_zero, Region.wanted, if_true]
  refine Or.inl ?_
  simp only [Oper.wp, execOp]
  go_simp
  try rw [wpOps_cons]
  simp only [wpOp, List.getElem?_toArray, List.getElem?_cons_succ, List.getElem?_cons_zero, Region.wanted, if_true]
  refine Or.inl ?_
  simp only [Oper.wp, execOp]
  go_simp
  try simp only [wpOps]
  rw [← hU]
  clear hU f9 q9
  have RBo := Lib.hid BX.out.row
  have FRW := Lib.hid (fun x (K : VBX4.grownBy x (some (w.heap.size + 1))) => have r := row_grow RW.out K (by simp); And.intro (row_c r (i := 0) rfl) (And.intro (row_c r (i := 1) rfl) (row_c r (i := 2) rfl)))
  have FRA := Lib.hid (fun x (K : VBX4.grownBy x (some (w.heap.size + 1))) => have r := row_grow RA.out K (by simp); And.intro (row_c r (i := 0) rfl) (And.intro (row_c r (i := 1) rfl) (row_c r (i := 2) rfl)))
  have FRBo := Lib.hid (fun x (K : VBX4.grownBy x (some (w.heap.size + 1))) => have r := row_grow RBo.out K (by simp); And.intro (row_c r (i := 0) rfl) (And.intro (row_c r (i := 1) rfl) (row_c r (i := 2) rfl)))
  have FMx := Lib.hid (fun x (K : VBX4.grownBy x (some (w.heap.size + 1))) => ((below_g (B := w.heap.size) K (by omega) BX.out.kb.size).cell (p := ⟨bm, om + n0, none⟩) MM.out.1).trans ((BX.out.kb.cell (p := ⟨bm, om + n0, none⟩) MM.out.1).trans MM.out.2))
  have RPd := Lib.hid (show VBX4.drew.heap[w.heap.size + 1]? = some (.cells #[.bool false, .slice none 0 0, .slice none 0 0] 33 (0, 0)) from RP.out)
  have BV := BX.out.kb
  have BVs := Lib.hid (show w.heap.size + 2 ≤ VBX4.heap.size from heap_lt RP.out)
  go_upto_region 11 with (fail)
  have hhl := K01.out.2
  have hh0 := K01.out.1
  refine wp_operandsZ (W := VBX4) rfl 9 [59, 60, 61, 62, 63, 64, 65, 9, 3] (fun i u x => match i with | 0 => u = .agg #[.bool true, .slice ABX1 Z1.length cBX1, .slice ABX2 X1.length cBX2] | 1 => u = .pointer (some ⟨w.heap.size, 1, none⟩) | 2 => u = .slice (some ⟨bm, om, none⟩) ks.length c | 3 => u = .int .i64 (n0 : Int) | 4 => u = .pointer (some ⟨bm, om + n0, none⟩) | 5 => u = .string ⟨mid.toArray⟩ | 6 => u = .agg #[.bool true, .slice ABX3 Z2.length cBX3, .slice ABX4 X2.length cBX4] | 7 => True | 8 => u = .string ⟨mid.toArray⟩ | _ => True) (fun a b => a.grownBy b (some (w.heap.size + 1))) (fun l x => x.heap[w.heap.size + 1]? = some (.cells (if l 7 then #[.bool true, .slice ABX1 Z1.length cBX1, .slice ABX2 X1.length cBX2] else #[.bool false, .slice none 0 0, .slice none 0 0]) 33 (0, 0)))
    (by decide) rfl (by kernel_rfl) (by kernel_rfl) (by decide) (by kernel_rfl) (fun _ _ _ => grow_trans) ?_ (grow_below (bd0 VBX4)) (by simpa using RPd.out) ?_ ?_
  · intro i u x x' hi hR hb'
    have hi' : i = 0 ∨ i = 1 ∨ i = 2 ∨ i = 3 ∨ i = 4 ∨ i = 5 ∨ i = 6 ∨ i = 7 ∨ i = 8 := by omega
    rcases hi' with rfl | rfl | rfl | rfl | rfl | rfl | rfl | rfl | rfl
    · exact hR
    · exact hR
    · exact hR
    · exact hR
    · exact hR
    · exact hR
    · exact hR
    · exact trivial
    · exact hR
  · intro i av x l K hi hF hb' hl hw hZ hK
    have hi' : i = 0 ∨ i = 1 ∨ i = 2 ∨ i = 3 ∨ i = 4 ∨ i = 5 ∨ i = 6 ∨ i = 7 ∨ i = 8 := by omega
    rcases hi' with rfl | rfl | rfl | rfl | rfl | rfl | rfl | rfl | rfl
    · simp only [wpOp, List.getElem?_toArray, List.getElem?_cons_zero, Region.wanted, if_true]
      refine Or.inl ?_
      have e0 : av.tmps.getD 7 undef = .pointer (some ⟨w.heap.size + 3, 0, none⟩) := hF.2.2 7 (by decide)
      have e0e : av.eval (.tmp 7) = .pointer (some ⟨w.heap.size + 3, 0, none⟩) := e0
      have e0g : av.tmps[7]?.getD undef = .pointer (some ⟨w.heap.size + 3, 0, none⟩) := by have := e0; simp only [Array.getD_eq_getD_getElem?] at this; exact this
      obtain ⟨f0, f1, f2⟩ := FRA.out x hb'
      clear hw hF
      simp only [Oper.wp, execOp]
      try simp only [e0e]
      go_simp
      exact hK _ x (by first | rfl | (simp only [Nat.add_zero]; done) | (congr 1; omega)) (World.grownBy.refl _ _) (by simpa using hZ)
    · simp only [wpOp, List.getElem?_toArray, List.getElem?_cons_succ, List.getElem?_cons_zero, Region.wanted, if_true]
      refine Or.inl ?_
      have e0 : av.tmps.getD 1 undef = .pointer (some ⟨w.heap.size, 0, none⟩) := hF.2.2 1 (by decide)
      have e0e : av.eval (.tmp 1) = .pointer (some ⟨w.heap.size, 0, none⟩) := e0
      have e0g : av.tmps[1]?.getD undef = .pointer (some ⟨w.heap.size, 0, none⟩) := by have := e0; simp only [Array.getD_eq_getD_getElem?] at this; exact this
      clear hw hF
      simp only [Oper.wp, execOp]
      try simp only [e0e]
      go_simp
      exact hK _ x (by first | rfl | (simp only [Nat.add_zero]; done) | (congr 1; omega)) (World.grownBy.refl _ _) (by simpa using hZ)
    · simp only [wpOp, List.getElem?_toArray, List.getElem?_cons_succ, List.getElem?_cons_zero, Region.wanted, if_true]
      refine Or.inl ?_
      have e0 : av.tmps.getD 60 undef = .pointer (some ⟨w.heap.size, 1, none⟩) := (hw 1 (by kernel_rfl)).2
      have e0e : av.eval (.tmp 60) = .pointer (some ⟨w.heap.size, 1, none⟩) := e0
      have e0g : av.tmps[60]?.getD undef = .pointer (some ⟨w.heap.size, 1, none⟩) := by have := e0; simp only [Array.getD_eq_getD_getElem?] at this; exact this
      obtain ⟨f0, f1, f2⟩ := FRW.out x hb'
      clear hw hF
      simp only [Oper.wp, execOp]
      try simp only [e0e]
      go_simp
      exact hK _ x (by first | rfl | (simp only [Nat.add_zero]; done) | (congr 1; omega)) (World.grownBy.refl _ _) (by simpa using hZ)
    · simp only [wpOp, List.getElem?_toArray, List.getElem?_cons_succ, List.getElem?_cons_zero, Region.wanted, if_true]
      refine Or.inl ?_
      have e0 : av.tmps.getD 6 undef = .int .i64 (n0 : Int) := hF.2.2 6 (by decide)
      have e0e : av.eval (.tmp 6) = .int .i64 (n0 : Int) := e0
      have e0g : av.tmps[6]?.getD undef = .int .i64 (n0 : Int) := by have := e0; simp only [Array.getD_eq_getD_getElem?] at this; exact this
      clear hw hF
      simp only [Oper.wp, execOp]
      try simp only [e0e]
      go_simp
      exact hK _ x (by first | rfl | (simp only [Nat.add_zero]; done) | (congr 1; omega)) (World.grownBy.refl _ _) (by simpa using hZ)
    · simp only [wpOp, List.getElem?_toArray, List.getElem?_cons_succ, List.getElem?_cons_zero, Region.wanted, if_true]
      refine Or.inl ?_
      have e0 : av.tmps.getD 61 undef = .slice (some ⟨bm, om, none⟩) ks.length c := (hw 2 (by kernel_rfl)).2
      have e0e : av.eval (.tmp 61) = .slice (some ⟨bm, om, none⟩) ks.length c := e0
      have e0g : av.tmps[61]?.getD undef = .slice (some ⟨bm, om, none⟩) ks.length c := by have := e0; simp only [Array.getD_eq_getD_getElem?] at this; exact this
      have e1 : av.tmps.getD 62 undef = .int .i64 (n0 : Int) := (hw 3 (by kernel_rfl)).2
      have e1e : av.eval (.tmp 62) = .int .i64 (n0 : Int) := e1
      have e1g : av.tmps[62]?.getD undef = .int .i64 (n0 : Int) := by have := e1; simp only [Array.getD_eq_getD_getElem?] at this; exact this
      clear hw hF
      simp only [Oper.wp, execOp]
      try simp only [e0e, e1e]
      go_simp
      exact hK _ x (by first | rfl | (simp only [Nat.add_zero]; done) | (congr 1; omega)) (World.grownBy.refl _ _) (by simpa using hZ)
    · simp only [wpOp, List.getElem?_toArray, List.getElem?_cons_succ, List.getElem?_cons_zero, Region.wanted, if_true]
      refine Or.inl ?_
      have e0 : av.tmps.getD 63 undef = .pointer (some ⟨bm, om + n0, none⟩) := (hw 4 (by kernel_rfl)).2
      have e0e : av.eval (.tmp 63) = .pointer (some ⟨bm, om + n0, none⟩) := e0
      have e0g : av.tmps[63]?.getD undef = .pointer (some ⟨bm, om + n0, none⟩) := by have := e0; simp only [Array.getD_eq_getD_getElem?] at this; exact this
      have fm := FMx.out x hb'
      unfold sv at fm
      clear hw hF
      simp only [Oper.wp, execOp]
      try simp only [e0e]
      go_simp
      exact hK _ x (by first | rfl | (simp only [Nat.add_zero]; done) | (congr 1; omega)) (World.grownBy.refl _ _) (by simpa using hZ)
    · simp only [wpOp, List.getElem?_toArray, List.getElem?_cons_succ, List.getElem?_cons_zero, Region.wanted, if_true]
      refine Or.inl ?_
      have e0 : av.tmps.getD 8 undef = .pointer (some ⟨w.heap.size + 4, 0, none⟩) := hF.2.2 8 (by decide)
      have e0e : av.eval (.tmp 8) = .pointer (some ⟨w.heap.size + 4, 0, none⟩) := e0
      have e0g : av.tmps[8]?.getD undef = .pointer (some ⟨w.heap.size + 4, 0, none⟩) := by have := e0; simp only [Array.getD_eq_getD_getElem?] at this; exact this
      obtain ⟨f0, f1, f2⟩ := FRBo.out x hb'
      clear hw hF
      simp only [Oper.wp, execOp]
      try simp only [e0e]
      go_simp
      exact hK _ x (by first | rfl | (simp only [Nat.add_zero]; done) | (congr 1; omega)) (World.grownBy.refl _ _) (by simpa using hZ)
    · simp only [wpOp, List.getElem?_toArray, List.getElem?_cons_succ, List.getElem?_cons_zero, Region.wanted, if_true]
      refine Or.inl ?_
      have e0 : av.tmps.getD 2 undef = .pointer (some ⟨w.heap.size + 1, 0, none⟩) := hF.2.2 2 (by decide)
      have e0e : av.eval (.tmp 2) = .pointer (some ⟨w.heap.size + 1, 0, none⟩) := e0
      have e0g : av.tmps[2]?.getD undef = .pointer (some ⟨w.heap.size + 1, 0, none⟩) := by have := e0; simp only [Array.getD_eq_getD_getElem?] at this; exact this
      have e1 : av.tmps.getD 59 undef = .agg #[.bool true, .slice ABX1 Z1.length cBX1, .slice ABX2 X1.length cBX2] := (hw 0 (by kernel_rfl)).2
      have e1e : av.eval (.tmp 59) = .agg #[.bool true, .slice ABX1 Z1.length cBX1, .slice ABX2 X1.length cBX2] := e1
      have e1g : av.tmps[59]?.getD undef = .agg #[.bool true, .slice ABX1 Z1.length cBX1, .slice ABX2 X1.length cBX2] := by have := e1; simp only [Array.getD_eq_getD_getElem?] at this; exact this
      have hrow : x.heap[w.heap.size + 1]? = some (.cells #[.bool false, .slice none 0 0, .slice none 0 0] 33 (0, 0)) := by have := hZ; simpa only [hl, if_false, Bool.false_eq_true] using this
      have p0 := row_c hrow (i := 0) rfl
      have p1 := row_c hrow (i := 1) rfl
      have p2 := row_c hrow (i := 2) rfl
      have y0 := frozen_of_row _ _ 0 _ _ hrow
      have y1 := frozen_of_row _ _ 1 _ _ hrow
      have y2 := frozen_of_row _ _ 2 _ _ hrow
      have PS := put_self av 9
      clear hw hF
      simp only [Oper.wp, execOp]
      try simp only [e0e, e1e]
      go_simp
      have hset := row_set (i := 2) (row_set (i := 1) (row_set (i := 0) hrow (.bool true)) (.slice ABX1 Z1.length cBX1)) (.slice ABX2 X1.length cBX2)
      have := hK (av.tmps.getD 9 undef) (((x.setCell ⟨w.heap.size + 1, 0, none⟩ (.bool true)).setCell ⟨w.heap.size + 1, 1, none⟩ (.slice ABX1 Z1.length cBX1)).setCell ⟨w.heap.size + 1, 2, none⟩ (.slice ABX2 X1.length cBX2)) trivial (grow_trans (grow_trans (grow_set _ _ _ _) (grow_set _ _ _ _)) (grow_set _ _ _ _)) (by simpa using hset)
      replace this : K (av.put (some 9) (av.tmps.getD 9 undef)) _ := this
      rw [PS] at this
      exact this
    · simp only [wpOp, List.getElem?_toArray, List.getElem?_cons_succ, List.getElem?_cons_zero, Region.wanted, if_true]
      refine Or.inl ?_
      have e0 : av.tmps.getD 64 undef = .string ⟨mid.toArray⟩ := (hw 5 (by kernel_rfl)).2
      have e0e : av.eval (.tmp 64) = .string ⟨mid.toArray⟩ := e0
      have e0g : av.tmps[64]?.getD undef = .string ⟨mid.toArray⟩ := by have := e0; simp only [Array.getD_eq_getD_getElem?] at this; exact this
      clear hw hF
      simp only [Oper.wp, execOp]
      try simp only [e0e]
      go_simp
      exact hK _ x (by first | rfl | (simp only [Nat.add_zero]; done) | (congr 1; omega)) (World.grownBy.refl _ _) (by simpa using hZ)
  · intro av x l hF hb' hR hl hZ
    have e0 : av.tmps.getD 59 undef = .agg #[.bool true, .slice ABX1 Z1.length cBX1, .slice ABX2 X1.length cBX2] := hR 0 (by decide)
    have e1 : av.tmps.getD 60 undef = .pointer (some ⟨w.heap.size, 1, none⟩) := hR 1 (by decide)
    have e2 : av.tmps.getD 61 undef = .slice (some ⟨bm, om, none⟩) ks.length c := hR 2 (by decide)
    have e3 : av.tmps.getD 62 undef = .int .i64 (n0 : Int) := hR 3 (by decide)
    have e4 : av.tmps.getD 63 undef = .pointer (some ⟨bm, om + n0, none⟩) := hR 4 (by decide)
    have e5 : av.tmps.getD 64 undef = .string ⟨mid.toArray⟩ := hR 5 (by decide)
    have e6 : av.tmps.getD 65 undef = .agg #[.bool true, .slice ABX3 Z2.length cBX3, .slice ABX4 X2.length cBX4] := hR 6 (by decide)
    have e8 : av.tmps.getD 3 undef = .string ⟨mid.toArray⟩ := hR 8 (by decide)
    rw [hF.fold (by kernel_rfl)]
    simp only [List.foldl_cons, List.foldl_nil, e0, e1, e2, e3, e4, e5, e6, e8]
    simp only [Act.put, List.setIfInBounds_toArray, List.set_cons_zero, List.set_cons_succ]
    change wpOps _ _ _ [9, 10] _ _
    simp only [wpOps_cons]
    clear e0 e1 e2 e3 e4 e5 e6 e8 hR hF
    have k7 := hl 7 (by decide)
    have RX := Lib.hid (show x.heap[w.heap.size + 1]? = some (.cells #[.bool true, .slice ABX1 Z1.length cBX1, .slice ABX2 X1.length cBX2] 33 (0, 0)) by have := hZ; simpa only [k7, if_true] using this)
    have GB := Lib.hid hb'
    have RQx := Lib.hid (row_grow RQ.out hb' (by simp))
    have VAx := Lib.hid (And.intro (VA.out.1.grow hb' (fun k e => .inl (by injection e with e; omega))) (VA.out.2.grow hb' (fun k e => .inl (by injection e with e; omega))))
    have VBx := Lib.hid (And.intro (BX.out.ol.1.grow hb' (fun k e => .inl (by injection e with e; have := BX.out.bz; omega))) (BX.out.ol.2.grow hb' (fun k e => .inl (by injection e with e; omega))))
    have KX := Lib.hid (BX.out.kb.trans (below_g hb' (by omega) BX.out.kb.size))
    clear hZ hl hb' k7 VA BX RQ RW RP RA RBo FRW FRA FRBo FMx BV BVs RPd
    have p0 := row_c RX.out (i := 0) rfl
    have p1 := row_c RX.out (i := 1) rfl
    have p2 := row_c RX.out (i := 2) rfl
    have q0 := row_c RQx.out (i := 0) rfl
    have q1 := row_c RQx.out (i := 1) rfl
    have q2 := row_c RQx.out (i := 2) rfl
    have qz0 := frozen_of_row _ _ 0 _ _ RQx.out
    have qz1 := frozen_of_row _ _ 1 _ _ RQx.out
    have qz2 := frozen_of_row _ _ 2 _ _ RQx.out
    try rw [wpOps_cons]
    simp only [wpOp, List.getElem?_toArray, List.getElem?_cons_succ, List.getElem?_cons_zero, Region.wanted, if_true]
    refine Or.inl ?_
    simp only [Oper.wp, execOp]
    go_simp
    try rw [wpOps_cons]
    simp only [wpOp, List.getElem?_toArray, List.getElem?_cons_succ, List.getElem?_cons_zero, Region.wanted, if_true]
    refine Or.inl ?_
    simp only [Oper.wp, execOp]
    go_simp
    try simp only [wpOps]
    go_wp2
    refine bodyPost_ret (v := .tuple #[.agg #[.bool true, .slice ABX1 Z1.length cBX1, .slice ABX2 X1.length cBX2], .string ⟨mid.toArray⟩, .agg #[.bool true, .slice ABX3 Z2.length cBX3, .slice ABX4 X2.length cBX4], .bool true]) (by simp [results, Try.results31, go_sem, p0, p1, p2, q0, q1, q2]) rfl ⟨ABX1, cBX1, ABX2, cBX2, ABX3, cBX3, ABX4, cBX4, rfl, ?_, ?_, ?_, ?_, ?_⟩
    · exact (((VAx.out.1.set (by omega) _ _).set (by omega) _ _).set (by omega) _ _).1
    · exact (((VAx.out.2.set (by omega) _ _).set (by omega) _ _).set (by omega) _ _).1
    · exact (((VBx.out.1.set (by omega) _ _).set (by omega) _ _).set (by omega) _ _).1
    · exact (((VBx.out.2.set (by omega) _ _).set (by omega) _ _).set (by omega) _ _).1
    · exact ((KX.out.setCell (by first | (simp; done) | (simp; omega)) _).setCell (by first | (simp; done) | (simp; omega)) _).setCell (by first | (simp; done) | (simp; omega)) _
set_option maxHeartbeats 4000000 in
set_option maxRecDepth 100000 in
theorem rsplit_any (lf : Bool) (A : Option Addr) (c : Nat) (ks : List (List UInt8)) (B : Option Addr) (d : Nat) (ds : List Int) (mid : List UInt8) (w : World) (h : Rl sv w A c ks) (h2 : Rl nv w B d ds) (hl : ks.length ≤ 3999990) (hs : shapedB lf ks ds = true) (h4 : 4 ≤ ks.length) (hm : ks[hf ks]? = some mid) :
    Calls Try.prog 31 #[.agg #[.bool lf, .slice A ks.length c, .slice B ds.length d]] w fun e w' => ∃ A' c' B' d' A2 c2 B2 d2, e = .returned (.tuple #[.agg #[.bool lf, .slice A' (ks.take (hf ks)).length c', .slice B' (ds.take (cutN lf ks)).length d'], .string ⟨mid.toArray⟩, .agg #[.bool lf, .slice A2 (ks.drop (cutN lf ks)).length c2, .slice B2 (ds.drop (cutN lf ks)).length d2], .bool true]) ∧ Rl sv w' A' c' (ks.take (hf ks)) ∧ Rl nv w' B' d' (ds.take (cutN lf ks)) ∧ Rl sv w' A2 c2 (ks.drop (cutN lf ks)) ∧ Rl nv w' B2 d2 (ds.drop (cutN lf ks)) ∧ Below w.heap.size w w' := by
  have hsd : ds.length = if lf then ks.length else ks.length + 1 := by unfold shapedB at hs; cases lf <;> simpa using hs
  cases lf
  · have := rsplit_f A c ks B d ds mid w h h2 hl (by simpa using hsd) h4 _ _ rfl rfl hm _ _ _ _ _ _ _ _ rfl rfl rfl rfl rfl rfl rfl rfl
    simpa [cutN, hf] using this
  · have := rsplit_t A c ks B d ds mid w h h2 hl (by simpa using hsd) h4 _ _ rfl rfl hm _ _ _ _ _ _ _ _ rfl rfl rfl rfl rfl rfl rfl rfl
    simpa [cutN, hf] using this
end Go.Proofs.Ytkbdcbcjbgbglaa
