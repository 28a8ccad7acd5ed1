/-
  pager's text of a head: the map comes in any order.
-/
import Derived.Test.YtmgdpchjimlmeaaGd
import Derived.BigRegion
namespace Go.Proofs.Ytmgdpchjimlmeaa
open Go.RowKit
set_option linter.unusedSimpArgs false
set_option linter.unusedVariables false
/-- The first bytes of a turn. -/
def f1 (T k j : Nat) : Nat := if j < k then T / 2 ^ (8 * (5 - j)) % 256 else 0
theorem f1_step (T : Nat) {k : Nat} : (fun j => if j = k then T / 2 ^ (8 * (5 - k)) % 256 else f1 T k j) = f1 T (k + 1) := by
  funext j
  unfold f1
  by_cases h : j = k
  · subst h; rw [if_pos rfl, if_pos (by omega)]
  · rw [if_neg h]
    by_cases h2 : j < k
    · rw [if_pos h2, if_pos (by omega)]
    · rw [if_neg h2, if_neg (by omega)]
theorem f1_all (T R : Nat) (j : Nat) : (fun j => if j = 7 then R % 256 else (fun j => if j = 6 then R / 256 % 256 else f1 T 6 j) j) j = hF T R (fun _ => false) j := by
  show (if j = 7 then R % 256 else if j = 6 then R / 256 % 256 else f1 T 6 j) = _
  unfold hF f1
  by_cases h : j < 6
  · rw [if_neg (by omega), if_neg (by omega), if_pos h, if_pos h]
  · rw [if_neg h, if_neg h]
    by_cases h6 : j = 6
    · rw [if_neg (by omega), if_pos h6, if_pos h6]
    · rw [if_neg h6, if_neg h6]
      by_cases h7 : j = 7
      · rw [if_pos h7, if_pos h7]
      · rw [if_neg h7, if_neg h7, b8_none]
theorem unitInv (v : Value) (y : DataW Unit × List MemPlace) (h : unitElem v = some y) : ∃ c : Unit, v = (fun _ : Unit => Value.agg #[]) c := ⟨(), (unitElem_inv h).1⟩
theorem intInv (key : Value) (kl : Lit) (h : keyOf Try.prog 3 key = some kl) : ∃ x : Int, key = Value.int .i64 x := by
  obtain ⟨x, hx, _⟩ := Maps.keyOf_int_inv Try.underlying3 h
  exact ⟨x, hx⟩
theorem grown_set {w : World} (g i : Nat) (v : Value) : w.grownBy (w.setCell ⟨g, i, none⟩ v) (some g) :=
  ⟨rfl, rfl, rfl, by simp [World.setCell], fun k _ hk => Below.heap_setCell _ _ _ _ (fun e => hk (by subst e; rfl))⟩
theorem grown_drew {w w' : World} {row : Option Nat} (h : w.grownBy w' row) : w.grownBy w'.drew row := ⟨h.os, h.tape, h.output, h.size, h.block⟩
theorem has_of_at {D : DataW Unit} {kl : Lit} {d : DataW Unit} (h : ∀ zd, D.atKey kl zd = d) : Maps.has D kl = true := Maps.has_true_of_atKey h
/-- What of the set has come, as the range goes on. -/
theorem left_step {U : Nat → Bool} {left : Lit → Bool} {n : Nat} (hU : U n = true) (i : Nat) :
    (U i && !(left (.int .i64 (i : Int)) && !(Lit.int .i64 (i : Int)).sameKey (.int .i64 (n : Int)))) = ((U i && !left (.int .i64 (i : Int))) || i == n) := by
  by_cases e : i = n
  · subst e
    rw [WideAt.sameKey_self (keyLit _)]
    simp [hU]
  · have h1 : (Lit.int .i64 (i : Int)).sameKey (.int .i64 (n : Int)) = false := Maps.sameKey_ne (fun h => by injection h with _ h; omega)
    have h2 : (i == n) = false := by simpa using e
    rw [h1, h2]; simp

theorem below_drewG {B : Nat} {a w : World} (h : Below B a w) : Below B a w.drew := ⟨h.os, h.tape, h.output, h.size, h.block⟩
theorem or_shl (x r : Nat) (hx : x < 256) (hr : r < 8) : bits .or .u8 (x : Int) (IntKind.u8.wrap (2 ^ r)) = ((x ||| 2 ^ r : Nat) : Int) := by
  have hb : 2 ^ r < 256 := Nat.pow_lt_pow_right (n := 8) (by omega) hr
  have e : ((2 : Int) ^ r) = ((2 ^ r : Nat) : Int) := by simp
  rw [IntKind.wrap_u8', e]
  generalize 2 ^ r = Y at *
  rw [Int.emod_eq_of_lt (by omega) (by omega), u8_or_nat _ _ hx hb]

set_option maxHeartbeats 4000000 in
set_option maxRecDepth 100000 in
theorem text_any {b bm k0 : Nat} {U : Nat → Bool} (T R : Nat) (w : World) (hu : Us w bm k0 U) (hb : b < w.heap.size) (h0 : w.cell? ⟨b, 0, none⟩ = some (.int .i64 (T : Int))) (h1 : w.cell? ⟨b, 1, none⟩ = some (.int .i64 (R : Int))) (h2 : w.cell? ⟨b, 2, none⟩ = some (.map (some bm))) :
    Calls Try.prog 38 #[.pointer (some ⟨b, 0, none⟩)] w fun e w' => e = .returned (.string ⟨(headL T R U).toArray⟩) ∧ Below w.heap.size w w' := by
  have hmk := make72 w
  obtain ⟨W, hW⟩ : ∃ W : World, W = w.alloc (.cells (mem72 (fun _ => 0)) 5) := ⟨_, rfl⟩
  have hbW : Below w.heap.size w W := by rw [hW]; exact bda _ _
  have R1 := Lib.hid (show W.heap[w.heap.size]? = some (.cells (mem72 (f1 T 0)) 5 (0, 0)) by
    rw [hW, heap_alloc_new]
    rw [mem72_ext (f := fun _ => 0) (g := f1 T 0) (fun j _ => by unfold f1; simp)])
  have HU := Lib.hid hu
  have HB := Lib.hid hb
  have H0 := Lib.hid h0
  have H1 := Lib.hid h1
  have H2 := Lib.hid h2
  have BW := Lib.hid hbW
  rw [← hW] at hmk
  clear hu hb h0 h1 h2 hbW hW
  go_enter Try.func38, Try.ntmps38
  go_wp2_with fail
  clear hmk
  go_loopw [7] (fun kv wr => ∃ k : Nat, k ≤ 6 ∧ kv = .int .i64 k ∧ Hid (wr.heap[w.heap.size]? = some (.cells (mem72 (f1 T k)) 5 (0, 0))) ∧ Hid (Below w.heap.size w wr)) (fun kv _ => 6 - (intOf kv).toNat)
  case atStart => exact ⟨0, by omega, rfl, R1, BW⟩
  case round =>
    obtain ⟨k, hk, rfl, hr, hbl⟩ := hrel
    have t0 := (hbl.out.cell (p := ⟨b, 0, none⟩) HB.out).trans H0.out
    by_cases hk6 : k < 6
    · have hS : ∃ X : Nat, (8 * (5 - k) = 40 ∨ 8 * (5 - k) = 32 ∨ 8 * (5 - k) = 24 ∨ 8 * (5 - k) = 16 ∨ 8 * (5 - k) = 8 ∨ 8 * (5 - k) = 0) ∧ T / 2 ^ (8 * (5 - k)) = X := ⟨_, by omega, rfl⟩
      obtain ⟨X, hS, hX⟩ := hS
      have e1 : (8 : Int) * (5 - (k : Int)) = ((8 * (5 - k) : Nat) : Int) := by omega
      have HSX := Lib.hid hX
      obtain ⟨S, hSS⟩ : ∃ S, 8 * (5 - k) = S := ⟨_, rfl⟩
      rw [hSS] at e1 hX hS
      have EX := Lib.hid (show ((T : Int) / 2 ^ S % 256) = ((X % 256 : Nat) : Int) by rw [← hX]; simp)
      have ROW := Lib.hid (heap_setCell_same _ _ k _ _ (.int .u8 ((X % 256 : Nat) : Int)) hr.out)
      have hc := row_c (i := k) hr.out (mem72_at (by omega))
      have hz := frozen_of_row _ _ k _ _ hr.out
      have k0 : (0 : Int) ≤ (k : Int) := by omega
      have k1 : (k : Int) < 72 := by omega
      have KL := Lib.hid hk6
      clear hSS hX hr hk
      go_wp2_with fail
      rw [EX.out]
      have NB := Lib.hid (hbl.out.setCell (p := ⟨w.heap.size, k, none⟩) (Nat.le_refl _) (.int .u8 ((X % 256 : Nat) : Int)))
      clear hc hz e1 hS
      go_roundw
      case rel =>
        refine ⟨k + 1, by omega, by go_num, Lib.hid ?_, NB⟩
        have h := ROW.out
        rw [mem72_set, ← HSX.out, f1_step] at h
        rw [HSX.out] at h
        exact h
      case measure => simp [intOf]; omega
    · obtain rfl : k = 6 := by omega
      clear hk6 hk
      rw [show (((6 : Nat) : Int)) = (6 : Int) from rfl]
      have t1 := (hbl.out.cell (p := ⟨b, 1, none⟩) HB.out).trans H1.out
      have t2 := (hbl.out.cell (p := ⟨b, 2, none⟩) HB.out).trans H2.out
      have c6 := row_c (i := 6) hr.out (mem72_at (by omega))
      have z6 := frozen_of_row _ _ 6 _ _ hr.out
      have c7 := row_c (i := 7) hr.out (mem72_at (by omega))
      have z7 := frozen_of_row _ _ 7 _ _ hr.out
      have d2 := Lib.hid t2
      go_wp2_with fail
      go_region
      have E6 : ((R : Int) / 256 % 256) = ((R / 256 % 256 : Nat) : Int) := by omega
      have E7 : ((R : Int) % 256) = ((R % 256 : Nat) : Int) := by omega
      rw [E6, E7]
      have s6 := heap_setCell_same _ _ 6 _ _ (.int .u8 ((R / 256 % 256 : Nat) : Int)) hr.out
      rw [mem72_set] at s6
      have s7 := heap_setCell_same _ _ 7 _ _ (.int .u8 ((R % 256 : Nat) : Int)) s6
      rw [mem72_set] at s7
      obtain ⟨V, hV⟩ : ∃ V : World, V = ((wr.setCell ⟨w.heap.size, 6, none⟩ (.int .u8 ((R / 256 % 256 : Nat) : Int))).setCell ⟨w.heap.size, 7, none⟩ (.int .u8 ((R % 256 : Nat) : Int))).drew := ⟨_, rfl⟩
      have RV := Lib.hid (show V.heap[w.heap.size]? = some (.cells (mem72 (hF T R (fun _ => false))) 5 (0, 0)) by
        rw [hV, ← mem72_ext (fun j _ => f1_all T R j)]
        exact s7)
      have BV := Lib.hid (show Below w.heap.size w V by rw [hV]; exact below_drewG ((hbl.out.setCell (p := ⟨w.heap.size, 6, none⟩) (Nat.le_refl _) _).setCell (p := ⟨w.heap.size, 7, none⟩) (Nat.le_refl _) _))
      rw [← hV]
      clear hV s6 s7 E6 E7 c6 c7 z6 z7 t0 t1 t2 hr hbl d2
      have t2 := (BV.out.cell (p := ⟨b, 2, none⟩) HB.out).trans H2.out
      obtain ⟨D, hown, hD⟩ := HU.out.below BV.out
      have HD := Lib.hid hD
      have SV := Lib.hid BV.out.size
      have LB := Lib.hid HU.out.lt
      clear hD
      go_wp2_with (first | (at_range; refine wpList_range_own _ rfl _ 60 rfl 3 75 iK Try.underlying60 (unitElem (H := Unit)) bm k0 D rfl hown ?_; intro w0 hrg0 hg0 hs0) | go_in)
      go_frame
      have RW0 := Lib.hid (show w0.heap[w.heap.size]? = some (.cells (mem72 (hF T R (fun _ => false))) 5 (0, 0)) from (hg0.block _ (heap_lt RV.out) (by simp)).trans RV.out)
      have BW0 := Lib.hid (show Below w.heap.size w w0 from BV.out.trans ⟨hg0.os, hg0.tape, hg0.output, hg0.size, fun i hi => hg0.block i (Nat.lt_of_lt_of_le hi BV.out.size) (by simp)⟩)
      have HS0 := Lib.hid (show w.heap.size < V.heap.size from heap_lt RV.out)
      clear hg0 hs0 hown t2
      go_loopw [43] (fun _ wr => ∃ (left : Lit → Bool) (cnt : Nat), wr.ranges Try.prog 3 (unitElem (H := Unit)) bm V.heap.size k0 D left cnt ∧ Hid (wr.heap[w.heap.size]? = some (.cells (mem72 (hF T R (fun i => U i && !left (.int .i64 (i : Int))))) 5 (0, 0))) ∧ Hid (Below w.heap.size w wr)) (fun _ wr => wr.rangeLeft bm V.heap.size)
      case atStart =>
        refine ⟨_, _, hrg0, Lib.hid ?_, BW0⟩
        rw [RW0.out, mem72_ext (fun j hj => hF_ext (V := fun _ => false) (V' := fun i => U i && !Maps.has D (.int .i64 (i : Int))) (fun i hi => by
          rw [HD.out, inU_nat, decide_eq_true hi]; simp) hj)]
      case round =>
        obtain ⟨left, cnt, hrg, hr, hbl⟩ := hrel
        go_wp2_with (first | (at_next; refine wpList_next_ranges _ rfl _ rfl 3 iK (unitElem (H := Unit)) (Value.int .i64) (fun _ : Unit => Value.agg #[]) intInv unitInv bm V.heap.size k0 _ _ _ rfl hrg ?_ ?_) | go_in)
        · intro hc0 hl0
          have hr2 := hr.out
          rw [mem72_ext (fun j hj => hF_ext (V' := U) (fun i _ => by rw [hl0]; simp) hj)] at hr2
          have cv := conv_bytes wr w.heap.size 0 72 (headL T R U) 72 (headL_len _ _ _) (fun j v hj => by
            rw [Nat.zero_add]
            have hj2 : j < 72 := by
              have := (List.getElem?_eq_some_iff.1 hj).1
              rw [bc_len, headL_len] at this; exact this
            rw [bc_at (by rw [headL_len]; exact hj2)] at hj
            rw [row_c hr2 (mem72_at hj2), ← hj]
            congr 2
            unfold headL
            rw [List.getElem_map, List.getElem_range]
            have := hF_lt T R U j
            simp; omega)
          clear hr2 hr hc0 hl0 hrg
          go_wp2
          go_ret
          exact ⟨rfl, hbl.out⟩
        · intro x c kl y w1 cnt1 hkey hlx hv hat hrg1 hlt hg1 hs1 hen
          obtain ⟨x', ex, rfl, hwx⟩ := Maps.keyOf_int_inv Try.underlying3 hkey
          injection ex with _ ex
          subst ex
          have hin : inU U (.int .i64 x) = true := by rw [← HD.out]; exact has_of_at hat
          obtain ⟨n, en, hn, hUn⟩ := inU_true hin
          injection en with _ en
          subst en
          have hr1 : w1.heap[w.heap.size]? = _ := (hg1.block _ (heap_lt hr.out) (by have := HS0.out; simp; omega)).trans hr.out
          have HB1 := Lib.hid (show Below w.heap.size w w1 from hbl.out.trans ⟨hg1.os, hg1.tape, hg1.output, hg1.size, fun i hi => hg1.block i (Nat.lt_of_lt_of_le hi hbl.out.size) (by have := HS0.out; simp; omega)⟩)
          obtain ⟨q, hq⟩ : ∃ q, n / 8 = q := ⟨_, rfl⟩
          obtain ⟨r, hrr⟩ : ∃ r, n % 8 = r := ⟨_, rfl⟩
          obtain ⟨m, hm⟩ : ∃ m, 8 + q = m := ⟨_, rfl⟩
          obtain ⟨Y, hY⟩ : ∃ Y, hF T R (fun i => U i && !left (.int .i64 (i : Int))) m = Y := ⟨_, rfl⟩
          have hYl : Y < 256 := by rw [← hY]; exact hF_lt _ _ _ _
          have c8 := row_c (i := m) hr1 (mem72_at (by omega))
          rw [hY] at c8
          have z8 := frozen_of_row _ _ m _ _ hr1
          have hr8 : r < 8 := by omega
          have s8 := heap_setCell_same _ _ m _ _ (.int .u8 ((Y ||| 2 ^ r : Nat) : Int)) hr1
          rw [mem72_set] at s8
          have NR := Lib.hid (show ((w1.setCell ⟨w.heap.size, m, none⟩ (.int .u8 ((Y ||| 2 ^ r : Nat) : Int))).drew).heap[w.heap.size]? = some (.cells (mem72 (hF T R (fun i => U i && !(left (.int .i64 (i : Int)) && !(Lit.int .i64 (i : Int)).sameKey (.int .i64 (n : Int)))))) 5 (0, 0)) by
            have e := s8
            rw [mem72_ext (g := hF T R (fun i => U i && !(left (.int .i64 (i : Int)) && !(Lit.int .i64 (i : Int)).sameKey (.int .i64 (n : Int))))) (fun j _ => by
              rw [show (fun i => U i && !(left (.int .i64 (i : Int)) && !(Lit.int .i64 (i : Int)).sameKey (.int .i64 (n : Int)))) = fun i => (U i && !left (.int .i64 (i : Int))) || i == n from funext (left_step hUn)]
              rw [hF_or, hq, hrr, hm]
              by_cases e : j = m
              · rw [if_pos e, if_pos e, e, hY]
              · rw [if_neg e, if_neg e])] at e
            exact e)
          have W8 := or_shl Y r hYl hr8
          have W1 : IntKind.i64.wrap (8 + (q : Int)) = ((m : Nat) : Int) := by rw [IntWalk.i64_in _ (by omega)]; omega
          have W2 : (n : Int) / 8 = (q : Int) := by omega
          have W3 : (n : Int) % 8 = (r : Int) := by omega
          have W4 : Int.tdiv (n : Int) 8 = (q : Int) := by rw [Int.tdiv_eq_ediv_of_nonneg (by omega)]; omega
          have W5 : Int.tmod (n : Int) 8 = (r : Int) := by rw [Int.tmod_eq_emod_of_nonneg (by omega)]; omega
          have W6 : IntKind.i64.wrap (q : Int) = (q : Int) := IntWalk.i64_in _ (by omega)
          have W7 : IntKind.i64.wrap (r : Int) = (r : Int) := IntWalk.i64_in _ (by omega)
          have lq : q < 64 := by omega
          have l0 : (0 : Int) ≤ ((m : Nat) : Int) := by omega
          have l1 : ((m : Nat) : Int) < 72 := by omega
          have HX := Lib.hid (And.intro hkey (And.intro hlx (And.intro hat (And.intro hwx (And.intro hq (And.intro hrr (And.intro hm (And.intro hY hYl))))))))
          have HRG1 := Lib.hid hrg1
          have HLT := Lib.hid (And.intro hrg hlt)
          clear hkey hlx hat hwx hq hrr hm hY hYl hin hr hr1 s8 hg1 hs1 hn hUn hv hrg hlt hrg1
          go_wp2_with fail
          refine wp_region_still_tail 10 (by kernel_rfl) (by kernel_rfl) ?_
          simp only [List.take_succ_cons, List.take_zero, List.drop_succ_cons, List.drop_zero]
          repeat still_step
          refine wpStill_nil ?_
          change wpList _ _ _ _ _ w1.drew
          go_wp2_with fail
          have hrg2 := HRG1.out.kept (grown_drew (grown_set w.heap.size m (.int .u8 ((Y ||| 2 ^ r : Nat) : Int)))) (fun e => by have := LB.out; have := Option.some.inj e; omega) (fun e => by have := HS0.out; have := Option.some.inj e; omega)
          go_roundw
          case rel => exact ⟨_, _, _, _, _, _, _, _, _, _, _, _, _, _, _, _, ⟨_, cnt1, hrg2, NR, Lib.hid (below_drewG (HB1.out.setCell (p := ⟨w.heap.size, m, none⟩) (Nat.le_refl _) _))⟩, rfl⟩
          case measure => rw [hrg2.left_eq, HLT.out.1.left_eq]; exact HLT.out.2
end Go.Proofs.Ytmgdpchjimlmeaa
