import Derived.Test.YtnfafgpnnpapdaaDoorMB1
import Derived.Laws.OwnMore
import Derived.Test.YtnfafgpnnpapdaaDoorMB3
import Derived.Test.YtnfafgpnnpapdaaDoorMB0
section
/-
  append(own, digits...), whatever memory holds the digits.
-/
namespace Go.Proofs.YtnfafgpnnpapdaaDoor
open Go.RowKit
theorem run_append_nilcap {P : Program} {w : World} (base : Nat) (t ty e : TypeId) (i : TypeInfo) (size c : Nat) (ht : P.underlying t = some (.slice e)) (hi : P.info? e = some i)
    (v : Value) (n : Nat) (xs : List Value) (hown : w.ownsRow base e size v n xs) : (Builtin.append_ #[t, t] ty #[v, .slice none 0 c]).run P w = .ok v w := by
  rcases hown.2 with ⟨rfl, rfl⟩ | ⟨g, cap, cur, rfl, _, _, hnc, _⟩
  · simp [Builtin.append_, run_underlying ht, sizeOf, typeInfo, hi, Builtin.lenOf, Builtin.firstCells]
  · simp [Builtin.append_, run_underlying ht, sizeOf, typeInfo, hi, Builtin.lenOf, Builtin.firstCells, hnc, storeCells]
theorem wpList_append_dg {w : World} {ops : Array Oper} {rest : List Oper} {o : Oper} {a : Act} {Q : Exit → Act → World → Prop} (hgd : o.guard = none) (s x : Operand)
    (ho : o.op = .call { callee := .builtin .append, args := #[s, x], argTypes := #[22, 22] }) (base : Nat) (v : Value) (n : Nat) (zs ys : List Nat) (B : Option Addr) (d m : Nat)
    (hs : a.eval s = v) (hown : w.ownsRow base 67 1 v n (cells zs)) (hD : Dg w B d ys) (hm : m = ys.length) (hx : a.eval x = .slice B m d) (hb : n + m ≤ 1099511627776) (hbase : base ≤ w.heap.size)
    (h : ∀ v' w', w'.ownsRow base 67 1 v' (n + m) (cells (zs ++ ys)) → w.grownBy w' v.ownBlock → wpList Tryd.prog ops Q rest (a.put o.dst v') w') : wpList Tryd.prog ops Q (o :: rest) a w := by
  obtain ⟨i0, hi, hz0, hz1, hz2⟩ := info_parts elem_info
  have ec : cells (zs ++ ys) = cells zs ++ cells ys := by simp [cells]
  subst hm
  rcases B with _ | A
  · have h0 : ys = [] := by
      rcases Nat.eq_zero_or_pos ys.length with h0 | h0
      · exact List.eq_nil_of_length_eq_zero h0
      · obtain ⟨b, off, e, _⟩ := hD.2.2 h0
        cases e
    subst h0
    refine wpList_plain hgd fun K hK => ?_
    have hrun := run_append_nilcap (P := Tryd.prog) (w := w) base 22 o.type 67 i0 1 d Tryd.underlying22 hi v n (cells zs) hown
    unfold Oper.wp
    simp at hx
    simp [execOp, ho, resolve, invoke, builtin, hs, hx, hrun, Result.andThen]
    exact hK _ _ (h v w (by simpa using hown) (World.grownBy.refl _ _))
  · refine wpList_append_own _ hgd s x 22 ho base 67 i0 (.int .u32 0) 1 4 Tryd.underlying22 hi hz0 hz1 hz2 rfl (by decide) v n (cells zs) hs hown A ys.length d (cells ys) hx (by simp [cells]) (fun j u hj => dg_cell hD hj) (fun u hu => ?_) (by unfold maxLen; omega) (by omega) hbase fun v' w' h1 h2 _ => h v' w' (by rw [ec]; exact h1) h2
    unfold cells at hu; obtain ⟨x, _, rfl⟩ := List.mem_map.1 hu; rfl
end Go.Proofs.YtnfafgpnnpapdaaDoor
end

section
/-
  dyad.zeros, lift, odd.
-/
namespace Go.Proofs.YtnfafgpnnpapdaaDoor
open Go.RowKit
set_option linter.unusedSimpArgs false
set_option linter.unusedVariables false
/-- The first digit that is not 0. -/
theorem low_ex : ∀ (xs : List Nat), val xs ≠ 0 → ∃ i, i < xs.length ∧ xs[i]?.getD 0 ≠ 0 ∧ ∀ j, j < i → xs[j]?.getD 0 = 0 := by
  intro xs
  induction xs with
  | nil => intro h; exact absurd rfl h
  | cons x r ih =>
    intro h
    by_cases hx : x = 0
    · obtain ⟨i, h1, h2, h3⟩ := ih (by intro h0; apply h; simp only [val]; omega)
      refine ⟨i + 1, by simp; omega, by simpa using h2, fun j hj => ?_⟩
      rcases j with _ | j
      · simpa using hx
      · simpa using h3 j (by omega)
    · exact ⟨0, by simp, by simpa using hx, fun j hj => by omega⟩
set_option maxHeartbeats 2000000 in
set_option maxRecDepth 100000 in
theorem zeros_any (A : Option Addr) (c : Nat) (xs : List Nat) (w : World) (h : Dg w A c xs) (hv : val xs ≠ 0) (hl : xs.length ≤ 1000000) (hT : T32 w) :
    Calls Tryd.prog 103 #[.slice A xs.length c] w fun e w' => e = .returned (.int .i64 (tz (val xs) : Nat)) ∧ w = w' := by
  obtain ⟨i, hi, hne, hz⟩ := low_ex xs hv
  have HV := Lib.hid (tz_val xs i hz hi hne h.2.1)
  have hx := getD_lt h.2.1 i
  have HT := Lib.hid (tz32_any _ hne hx w hT)
  have htl := tz_lt hne (show xs[i]?.getD 0 < 2 ^ 32 by omega)
  obtain ⟨b, off, hA, hb, hc⟩ := h.2.2 (by omega)
  have hcap := h.1
  have HC := Lib.hid hc
  have HZ := Lib.hid hz
  have HN := Lib.hid hne
  have ci := hc i hi
  generalize xs[i]?.getD 0 = d at *
  obtain ⟨t, ht⟩ : ∃ t : Nat, tz d = t := ⟨_, rfl⟩
  rw [ht] at HV htl HT
  have HH := Lib.hid ht
  clear h hv hc hz hne hT ht
  subst hA
  go_enter Tryd.func103, Tryd.ntmps103
  go_wp2
  go_loop [3] (fun n => ∃ k : Nat, k ≤ i ∧ n = .int .i64 k) (fun n => i - (intOf n).toNat)
  case atStart => exact ⟨0, by omega, rfl⟩
  case round =>
    obtain ⟨k, hk, rfl⟩ := hrel
    have hkl : k < xs.length := by omega
    by_cases hlt : k < i
    · have ck := HC.out k hkl
      rw [HZ.out k hlt] at ck
      clear ci
      go_wp2
      go_round
      case rel => exact ⟨k + 1, by omega, by go_num⟩
      case measure => simp [intOf]; omega
    · obtain rfl : k = i := by omega
      have hdn : ((d : Int) == 0) = false := by have := HN.out; simp; omega
      go_wp2_with fail
      refine HT.out.mono ?_
      rintro e w' ⟨rfl, rfl⟩
      go_wp2
      go_ret
      exact ⟨ret_i (by rw [HV.out]; push_cast; omega), rfl⟩
theorem digs_shift {x : Nat} (h : x ≠ 0) : ∀ k : Nat, digs (x * 4294967296 ^ k) = List.replicate k 0 ++ digs x
  | 0 => by simp
  | k + 1 => by
    have hp : 0 < x * 4294967296 ^ k := Nat.mul_pos (by omega) (Nat.pow_pos (by omega))
    have e : x * 4294967296 ^ (k + 1) = x * 4294967296 ^ k * 4294967296 := by rw [Nat.pow_succ, Nat.mul_assoc]
    rw [e, digs_pos (by omega), Nat.mul_mod_left, Nat.mul_div_cancel _ (by omega), digs_shift h k, List.replicate_succ]
    rfl
theorem pow_parts2 (x n : Nat) : x * 2 ^ n = x * 2 ^ (n % 32) * 4294967296 ^ (n / 32) := by
  rw [show (4294967296 : Nat) = 2 ^ 32 from rfl, ← Nat.pow_mul, Nat.mul_assoc, ← Nat.pow_add, show n % 32 + 32 * (n / 32) = n by omega]
theorem ok_zeros2 (k : Nat) {xs : List Nat} (h : ok32 xs) : ok32 (List.replicate k 0 ++ xs) := by
  intro y hy
  rcases List.mem_append.1 hy with h1 | h1
  · have := (List.mem_replicate.1 h1).2; omega
  · exact h y h1
set_option maxHeartbeats 2000000 in
set_option maxRecDepth 100000 in
theorem lift_any (A : Option Addr) (c : Nat) (xs : List Nat) (n : Nat) (w : World) (h : Dg w A c xs) (hl : xs.length ≤ 500000) (hn : n ≤ 1000000) :
    Calls Tryd.prog 87 #[.slice A xs.length c, .int .i64 n] w fun e w' => ∃ A' c', e = .returned (.slice A' (digs (val xs * 2 ^ n)).length c') ∧ Dg w' A' c' (digs (val xs * 2 ^ n)) ∧ Below w.heap.size w w' := by
  have hk0 := h.2.1
  have HS := Lib.hid (shl_any A c xs (n % 32) w h (by omega) (by omega))
  rw [show ((n % 32 : Nat) : Int) = (n : Int) % 32 by omega] at HS
  clear h
  by_cases hlt : n < 32
  · have e : n % 32 = n := by omega
    rw [e] at HS
    have d1 : decide ((n : Int) < 32) = true := by simp; omega
    clear e hlt
    go_enter Tryd.func87, Tryd.ntmps87
    go_wp2_with fail
    refine HS.out.mono ?_
    rintro e w1 ⟨A1, c1, rfl, hd, hb⟩
    have K := Lib.hid (And.intro hd hb)
    clear hd hb
    go_wp2
    go_ret
    exact ⟨A1, c1, rfl, K.out.1, K.out.2⟩
  · have d1 : decide ((n : Int) < 32) = false := by simp; omega
    have hp := pow_parts2 (val xs) n
    have hly0 := digs_mul_len (val xs) (2 ^ (n % 32))
    have hly1 := digs_len_lt (m := 1) (n := 2 ^ (n % 32)) (by
      have : 2 ^ (n % 32) < 2 ^ 32 := Nat.pow_lt_pow_right (by omega) (by omega)
      omega)
    have hly2 := digs_len_mono (val xs) _ (Nat.le_refl _)
    have hly3 : (digs (val xs * 2 ^ (n % 32))).length ≤ 1000000 := by
      have := digs_len_le hk0
      omega
    clear hly0 hly1 hly2
    generalize val xs * 2 ^ (n % 32) = y at *
    by_cases hy : y = 0
    · have e0 : val xs * 2 ^ n = 0 := by rw [hp, hy, Nat.zero_mul]
      rw [e0]
      rw [hy] at HS
      have d2 : (((digs 0).length : Int) == 0) = true := by rw [digs_zero]; rfl
      clear hp hy e0 hlt hly3
      generalize digs 0 = zs at *
      go_enter Tryd.func87, Tryd.ntmps87
      go_wp2_with fail
      refine HS.out.mono ?_
      rintro e w1 ⟨A1, c1, rfl, hd, hb⟩
      have K := Lib.hid (And.intro hd hb)
      clear hd hb
      go_wp2
      go_ret
      exact ⟨A1, c1, rfl, K.out.1, K.out.2⟩
    · have HD := Lib.hid (digs_shift hy (n / 32))
      rw [← hp] at HD
      have d2 : (((digs y).length : Int) == 0) = false := beq_eq_false_iff_ne.2 (by have : (digs y).length ≠ 0 := fun e => hy (digs_nil.1 e); omega)
      have hk := ok_digs y
      have HK := Lib.hid (ok_zeros2 (n / 32) hk)
      have hmk := run_make_row' (P := Tryd.prog) 22 67 (.int .u32 0) 4 Tryd.underlying22 elem_info rfl .i64 .i64 (n / 32) (by omega) (by omega)
      rw [show ((n / 32 : Nat) : Int) = (n : Int) / 32 by omega] at hmk
      clear hp hy hk hlt
      generalize val xs * 2 ^ n = v at *
      generalize digs y = zs at *
      go_enter Tryd.func87, Tryd.ntmps87
      go_wp2_with fail
      refine HS.out.mono ?_
      rintro e w1 ⟨A1, c1, rfl, hd, hb⟩
      have HO := Lib.hid (own_zeros (w := w1) (e := 67) (n / 32) (by unfold maxLen; omega))
      have K := Lib.hid (And.intro hd hb)
      clear hd hb
      go_wp2_with (at_builtin; refine wpList_append_dg rfl _ _ rfl w1.heap.size _ (n / 32) (List.replicate (n / 32) 0) zs A1 c1 zs.length rfl HO.out (K.out.1.below (below1 _ _)) rfl rfl (by omega) (by simp) ?_)
      intro v' w6 hown hgrow
      obtain ⟨A6, c6, hv, hd6⟩ := dg_of_own hown HK.out
      have hb6 := ((below1 w1 (.cells (madeCells #[.int .u32 0] (n / 32)) 67))).grown hgrow (by simp) (by intro k hk; simp [Value.ownBlock] at hk; omega)
      have K2 := Lib.hid (And.intro hd6 (K.out.2.trans (hb6.mono K.out.2.size)))
      subst hv
      clear hown hd6 hgrow hb6
      go_wp2
      go_ret
      refine ⟨A6, c6, ?_, ?_, K2.out.2⟩
      · rw [HD.out]; rfl
      · rw [HD.out]; exact K2.out.1
end Go.Proofs.YtnfafgpnnpapdaaDoor
end

section
/-
  dyad.odd: the form of a number.
-/
namespace Go.Proofs.YtnfafgpnnpapdaaDoor
open Go.RowKit
set_option linter.unusedSimpArgs false
set_option linter.unusedVariables false
/-- An answer: M times 2^E. -/
def Yr (M E : Int) (w : World) (e : Ending) (w' : World) : Prop := ∃ A c, e = .returned (.agg #[.bool (decide (M < 0)), .slice A (digs M.natAbs).length c, .int .i64 E]) ∧ Dg w' A c (digs M.natAbs) ∧ Below w.heap.size w w'
theorem yr_mk {M E : Int} {w w' : World} {A : Option Addr} {c : Nat} {s : Bool} {x : Nat} {y : Int} (hx : x = M.natAbs) (hs : s = decide (M < 0)) (hy : y = E) (hd : Dg w' A c (digs x)) (hb : Below w.heap.size w w') :
    Yr M E w (.returned (.agg #[.bool s, .slice A (digs x).length c, .int .i64 y])) w' := by
  subst hx hs hy; exact ⟨A, c, rfl, hd, hb⟩
theorem nm_sg {s : Bool} {x : Nat} (h : x ≠ 0) : (nm (sg s x)).natAbs = x / 2 ^ tz x ∧ s = decide (nm (sg s x) < 0) ∧ ∀ e, nx (sg s x) e = e + tz x := by
  have ha := sg_abs s x
  have h0 : sg s x ≠ 0 := by intro e; rw [e] at ha; omega
  have ⟨_, _, c⟩ := nm_back h0
  rw [ha] at c
  refine ⟨c, ?_, fun e => ?_⟩
  · rw [nm_neg_iff]; unfold sg; cases s
    · simp
    · simp; omega
  · unfold nx; rw [if_neg h0, ha]
set_option maxHeartbeats 2000000 in
set_option maxRecDepth 100000 in
theorem odd_any (A : Option Addr) (c : Nat) (s : Bool) (x : Nat) (y M E : Int) (w : World) (h : Dg w A c (digs x)) (hl : (digs x).length ≤ 500000) (hT : T32 w) (hy : -1000000000 ≤ y ∧ y ≤ 1000000000) (hM : nm (sg s x) = M) (hE : nx (sg s x) y = E) :
    Calls Tryd.prog 54 #[.agg #[.bool s, .slice A (digs x).length c], .int .i64 y] w fun e w' => Yr M E w e w' := by
  by_cases h0 : x = 0
  · have d0 : (((digs x).length : Int) == 0) = true := by rw [h0, digs_zero]; rfl
    have HM := Lib.hid (show M = 0 ∧ E = 0 by rw [← hM, ← hE, h0]; unfold sg; cases s <;> exact ⟨rfl, rfl⟩)
    clear h0 h hM hE hT
    go_enter Tryd.func54, Tryd.ntmps54
    go_wp2
    refine bodyPost_ret (v := .agg #[.bool false, .slice none 0 0, .int .i64 0]) (by simp [results, Tryd.results54, go_sem]) rfl ?_
    have e1 := HM.out.1
    have e2 := HM.out.2
    subst e1 e2
    refine ⟨none, 0, ?_, ?_, below2 _ _ _⟩
    · show _ = Ending.returned (.agg #[.bool false, .slice none (digs 0).length 0, .int .i64 0])
      rw [digs_zero]; rfl
    · show Dg _ none 0 (digs 0)
      rw [digs_zero]; exact Dg.nil_ _ _
  · have d0 : (((digs x).length : Int) == 0) = false := beq_eq_false_iff_ne.2 (by have : (digs x).length ≠ 0 := fun e => h0 (digs_nil.1 e); omega)
    have HN := Lib.hid (nm_sg (s := s) h0)
    rw [hM] at HN
    have HE := Lib.hid (hE ▸ HN.out.2.2 y)
    have HM := Lib.hid HN.out.1
    have HS := Lib.hid HN.out.2.1
    have HZ := Lib.hid (fun W (hW : Dg W A c (digs x)) (hT : T32 W) => zeros_any A c (digs x) W hW (by rw [val_digs]; exact h0) (by omega) hT)
    rw [val_digs] at HZ
    have htl := tz_lt (n := x) (k := 32 * (digs x).length) h0 (by have := val_lt (ok_digs x); rw [val_digs] at this; rw [Nat.pow_mul]; exact this)
    have HR := Lib.hid (fun W (hW : Dg W A c (digs x)) => shr_any A c (digs x) (tz x) W hW (by omega) (by omega))
    rw [val_digs] at HR
    have H := Lib.hid h
    have HT := Lib.hid hT
    have HX0 := Lib.hid h0
    generalize tz x = k at *
    obtain ⟨y0, y1⟩ := hy
    have hk : k ≤ 16000000 := by omega
    clear h0 h hM hE hT htl HN
    by_cases hk0 : k = 0
    · have d1 : decide (0 < k) = false := by rw [hk0]; rfl
      have HK := Lib.hid hk0
      clear hk0
      go_enter Tryd.func54, Tryd.ntmps54
      go_wp2_with fail
      refine (HZ.out _ (H.out.below (below2 w _ _)) (t32_below HT.out (below2 w _ _))).mono ?_
      rintro e w1 ⟨rfl, rfl⟩
      go_wp2
      refine bodyPost_ret (v := .agg #[.bool s, .slice A (digs x).length c, .int .i64 y]) (by simp [results, Tryd.results54, go_sem]) rfl ?_
      refine yr_mk ?_ HS.out ?_ (H.out.below (below2 _ _ _)) (below2 _ _ _)
      · rw [HM.out, HK.out]; simp
      · rw [HE.out, HK.out]; simp
    · have d1 : decide (0 < k) = true := by simp; omega
      have hyk : wrap64 (y + (k : Int)) = y + (k : Int) := IntWalk.wrap64_in _ ⟨by omega, by omega⟩
      clear hk0
      go_enter Tryd.func54, Tryd.ntmps54
      go_wp2_with fail
      refine (HZ.out _ (H.out.below (below2 w _ _)) (t32_below HT.out (below2 w _ _))).mono ?_
      rintro e w1 ⟨rfl, rfl⟩
      go_wp2_with fail
      refine (HR.out _ (H.out.below (below2 w _ _))).mono ?_
      rintro e w1 ⟨A1, c1, rfl, hd, hb⟩
      have f0 := row_cell (heap_alloc2_old w (.cells #[.bool s, .slice A (digs x).length c] 24) (.cells #[.bool false, .slice none 0 0, .int .i64 0] 26)) hb 0
      have f1 := row_cell (heap_alloc2_old w (.cells #[.bool s, .slice A (digs x).length c] 24) (.cells #[.bool false, .slice none 0 0, .int .i64 0] 26)) hb 1
      have z1 := row_frozen (heap_alloc2_old w (.cells #[.bool s, .slice A (digs x).length c] 24) (.cells #[.bool false, .slice none 0 0, .int .i64 0] 26)) hb 1
      have r0 := row_cell (heap_alloc2_new w (.cells #[.bool s, .slice A (digs x).length c] 24) (.cells #[.bool false, .slice none 0 0, .int .i64 0] 26)) hb 0
      have r1 := row_cell (heap_alloc2_new w (.cells #[.bool s, .slice A (digs x).length c] 24) (.cells #[.bool false, .slice none 0 0, .int .i64 0] 26)) hb 1
      have r2 := row_cell (heap_alloc2_new w (.cells #[.bool s, .slice A (digs x).length c] 24) (.cells #[.bool false, .slice none 0 0, .int .i64 0] 26)) hb 2
      have y0 := row_frozen (heap_alloc2_new w (.cells #[.bool s, .slice A (digs x).length c] 24) (.cells #[.bool false, .slice none 0 0, .int .i64 0] 26)) hb 0
      have y1 := row_frozen (heap_alloc2_new w (.cells #[.bool s, .slice A (digs x).length c] 24) (.cells #[.bool false, .slice none 0 0, .int .i64 0] 26)) hb 1
      have y2 := row_frozen (heap_alloc2_new w (.cells #[.bool s, .slice A (digs x).length c] 24) (.cells #[.bool false, .slice none 0 0, .int .i64 0] 26)) hb 2
      simp only [List.getElem?_toArray, List.getElem?_cons_zero, List.getElem?_cons_succ] at f0 f1 r0 r1 r2
      have HB := Lib.hid ((below2 w _ _).trans (hb.mono (by simp; omega)))
      have HO1 := Lib.hid (off_box (g := w.heap.size) hd ((below1 _ _).trans (hb.mono (by simp))) rfl noint2')
      have HO2 := Lib.hid (off_box (g := w.heap.size + 1) hd hb (by simp) noint3)
      have HD := Lib.hid hd
      clear hb hd
      go_wp2
      refine bodyPost_ret (v := .agg #[.bool s, .slice A1 (digs (x / 2 ^ k)).length c1, .int .i64 (y + k)]) (by simp [results, Tryd.results54, go_sem, f0, f1, r0, r1, r2]) rfl ?_
      refine yr_mk HM.out.symm HS.out HE.out.symm ?_ ?_
      · exact ((((HD.out.set_off HO1.out _ _).set_off HO2.out _ _).set_off HO2.out _ _).set_off HO2.out _ _)
      · exact ((((HB.out.setCell (by simp) _).setCell (by simp) _).setCell (by simp) _).setCell (by simp) _)
end Go.Proofs.YtnfafgpnnpapdaaDoor
end

section
/-
  Words for the walks of dyad: boxes and what is alive.
-/
namespace Go.Proofs.YtnfafgpnnpapdaaDoor
open Go.RowKit
theorem row_c {w : World} {g i : Nat} {cs : Array Value} {T : TypeId} {fr : Nat × Nat} {v : Value} (h : w.heap[g]? = some (.cells cs T fr)) (hv : cs[i]? = some v) : w.cell? ⟨g, i, none⟩ = some v := (cell_of_row _ _ _ _ _ _ h).trans hv
theorem live_only {w0 w w' : World} {L : List (Option Addr × Nat × List Nat)} {g : Nat} {zs : Array Value} {T : TypeId} {fr : Nat × Nat} (hL : Live w0 w L) (ho : Only g w w') (hg : w.heap[g]? = some (.cells zs T fr)) (hz : ∀ (i : Nat) (n : Int), zs[i]? ≠ some (.int .u32 n)) (h0 : w0.heap.size ≤ g) : Live w0 w' L :=
  ⟨ho.below hL.1 h0, fun t ht => (hL.2 t ht).kept (ho.kept hg hz)⟩
theorem noint_dy {A : Option Addr} {n c : Nat} {b : Bool} {x : Int} : ∀ (o : Nat) (m : Int), (#[Value.bool b, .slice A n c, .int .i64 x])[o]? ≠ some (.int .u32 m) := noint3
theorem noint_int {A : Option Addr} {n c : Nat} {b : Bool} : ∀ (o : Nat) (m : Int), (#[Value.bool b, .slice A n c])[o]? ≠ some (.int .u32 m) := noint2'
theorem noint_re {x : Int} : ∀ (o : Nat) (m : Int), (#[Value.int .i64 x])[o]? ≠ some (.int .u32 m) := by
  intro o m; rcases o with _ | o <;> simp
theorem fin3 {w0 w : World} {L : List (Option Addr × Nat × List Nat)} {g : Nat} {zs : Array Value} {T : TypeId} {a b c : Value} (hL : Live w0 w L) (hg : w.heap[g]? = some (.cells zs T (0, 0))) (hz : ∀ (i : Nat) (n : Int), zs[i]? ≠ some (.int .u32 n)) (h0 : w0.heap.size ≤ g) :
    Live w0 (((w.setCell ⟨g, 0, none⟩ a).setCell ⟨g, 1, none⟩ b).setCell ⟨g, 2, none⟩ c) L := live_only hL ((((Only.refl g w).setCell 0 _).setCell 1 _).setCell 2 _) hg hz h0
theorem fin2 {w0 w : World} {L : List (Option Addr × Nat × List Nat)} {g : Nat} {zs : Array Value} {T : TypeId} {a b : Value} (hL : Live w0 w L) (hg : w.heap[g]? = some (.cells zs T (0, 0))) (hz : ∀ (i : Nat) (n : Int), zs[i]? ≠ some (.int .u32 n)) (h0 : w0.heap.size ≤ g) :
    Live w0 ((w.setCell ⟨g, 0, none⟩ a).setCell ⟨g, 1, none⟩ b) L := live_only hL (((Only.refl g w).setCell 0 _).setCell 1 _) hg hz h0
theorem keep_b {W w' : World} {g : Nat} (hb : Below W.heap.size W w') (hg : g < W.heap.size) : ∀ o, w'.cell? ⟨g, o, none⟩ = W.cell? ⟨g, o, none⟩ := fun o => hb.cell (p := ⟨g, o, none⟩) hg
theorem keep_set {W w' : World} {g r i : Nat} {v : Value} (h : ∀ o, w'.cell? ⟨g, o, none⟩ = W.cell? ⟨g, o, none⟩) (hne : g ≠ r) : ∀ o, (w'.setCell ⟨r, i, none⟩ v).cell? ⟨g, o, none⟩ = W.cell? ⟨g, o, none⟩ := fun o => by
  rw [World.cell?_setCell_other _ _ _ _ (by intro e; simp only [Addr.mk.injEq] at e; omega)]; exact h o
theorem t32_live {w0 w : World} {L : List (Option Addr × Nat × List Nat)} (h : T32 w0) (hL : Live w0 w L) : T32 w := t32_below h hL.1
/-- An answer and whether it is one; an answer and an error. -/
def Yb (M E : Int) (q : Bool) (w : World) (e : Ending) (w' : World) : Prop := ∃ A c, e = .returned (.tuple #[.agg #[.bool (decide (M < 0)), .slice A (digs M.natAbs).length c, .int .i64 E], .bool q]) ∧ Dg w' A c (digs M.natAbs) ∧ Below w.heap.size w w'
def Ye (M E k : Int) (w : World) (e : Ending) (w' : World) : Prop := ∃ A c, e = .returned (.tuple #[.agg #[.bool (decide (M < 0)), .slice A (digs M.natAbs).length c, .int .i64 E], .int .i64 k]) ∧ Dg w' A c (digs M.natAbs) ∧ Below w.heap.size w w'
theorem sg_abs2 (z : Int) : sg (decide (z < 0)) z.natAbs = z := by
  unfold sg
  by_cases h : z < 0
  · rw [if_pos (by simpa using h)]; omega
  · rw [if_neg (by simpa using h)]; omega
theorem sg_dz (z : Int) : sg (decide (z < 0)) (val (digs z.natAbs)) = z := by rw [val_digs]; exact sg_abs2 z
theorem nm_len (z : Int) : (digs (nm z).natAbs).length ≤ (digs z.natAbs).length := by
  by_cases h : z = 0
  · subst h; exact Nat.le_refl _
  · have ⟨_, _, c⟩ := nm_back h
    rw [c]; exact digs_len_mono _ _ (Nat.div_le_self _ _)
theorem zero_yb {w w' : World} (h : Below w.heap.size w w') : Yb 0 0 false w (.returned (.tuple #[.agg #[.bool false, .slice none 0 0, .int .i64 0], .bool false])) w' := by
  refine ⟨none, 0, ?_, ?_, h⟩
  · show _ = Ending.returned (.tuple #[.agg #[.bool false, .slice none (digs 0).length 0, .int .i64 0], .bool false])
    rw [digs_zero]; rfl
  · show Dg _ none 0 (digs 0)
    rw [digs_zero]; exact Dg.nil_ _ _
theorem zero_ye {k : Int} {w w' : World} (h : Below w.heap.size w w') : Ye 0 0 k w (.returned (.tuple #[.agg #[.bool false, .slice none 0 0, .int .i64 0], .int .i64 k])) w' := by
  refine ⟨none, 0, ?_, ?_, h⟩
  · show _ = Ending.returned (.tuple #[.agg #[.bool false, .slice none (digs 0).length 0, .int .i64 0], .int .i64 k])
    rw [digs_zero]; rfl
  · show Dg _ none 0 (digs 0)
    rw [digs_zero]; exact Dg.nil_ _ _
theorem zero_yr {w w' : World} (h : Below w.heap.size w w') : Yr 0 0 w (.returned (.agg #[.bool false, .slice none 0 0, .int .i64 0])) w' := by
  refine ⟨none, 0, ?_, ?_, h⟩
  · show _ = Ending.returned (.agg #[.bool false, .slice none (digs 0).length 0, .int .i64 0])
    rw [digs_zero]; rfl
  · show Dg _ none 0 (digs 0)
    rw [digs_zero]; exact Dg.nil_ _ _
/-- A number that is right. -/
def Rt (m e : Int) : Prop := Nf m e ∧ -131072 ≤ e ∧ e ≤ 131072
theorem dyR_num {m e : Int} (h : Rt m e) : dyR (decide (m < 0)) (digs m.natAbs) e = true := by
  obtain ⟨hn, h0, h1⟩ := h
  unfold dyR
  rcases hn with ⟨rfl, rfl⟩ | hn
  · show (if (digs 0).length = 0 then _ else _) = true
    rw [digs_zero]; rfl
  · have hm : m.natAbs ≠ 0 := by omega
    have hl : (digs m.natAbs).length ≠ 0 := fun e => hm (digs_nil.1 e)
    rw [if_neg hl, decide_eq_true h0, decide_eq_true h1]
    have h2 : rightB (decide (m < 0)) (digs m.natAbs) = true := by
      unfold rightB
      rw [if_neg hl, decide_eq_true_eq]
      have hne : (digs m.natAbs).getLast? = (digs m.natAbs)[(digs m.natAbs).length - 1]? := List.getLast?_eq_getElem?
      rcases hd : (digs m.natAbs)[(digs m.natAbs).length - 1]? with _ | d
      · rw [List.getElem?_eq_none_iff] at hd; omega
      · exact last_digs (by rw [hne, hd]; rfl)
    have h3 : decide ((digs m.natAbs)[0]?.getD 0 % 2 = 1) = true := by
      rw [digs_pos hm, decide_eq_true_eq]
      simp only [List.getElem?_cons_zero, Option.getD_some]
      omega
    rw [h2, h3]; rfl
theorem begin_1 {w : World} {g : Nat} {A : Option Addr} {c : Nat} {s q : Bool} {xs : List Nat} {e : Int} {T : TypeId} (hR : w.heap[g]? = some (.cells #[.bool s, .slice A xs.length c, .int .i64 e] T (0, 0))) (h : Dg w A c xs) (hq : dyR s xs e = q) (hl : xs.length ≤ 9223372036854775807) {k : Int} (hk : (if q then 0 else 1) = k) :
    Calls Tryd.prog 72 #[.slice (some ⟨g, 0, none⟩) 1 1] w fun e w' => e = .returned (.agg #[.int .i64 k]) ∧ Below w.heap.size w w' := by
  have := begin_any g 1 1 (fun _ => s) (fun _ => A) (fun _ => c) (fun _ => xs) (fun _ => e) (fun _ => q) w (heap_lt hR) (fun i hi => by
    obtain rfl : i = 0 := by omega
    exact ⟨row_c hR rfl, row_c hR rfl, row_c hR rfl, h⟩) (fun _ _ => hq) (fun _ _ => hl) (by omega) (Nat.le_refl _)
  have e : wrong (fun _ => q) 1 = k := by rw [← hk]; cases q <;> rfl
  rw [e] at this; exact this
def pk {α : Type} (a b : α) : Nat → α
  | 0 => a
  | _ => b
theorem begin_2 {w : World} {g : Nat} {A B : Option Addr} {c d : Nat} {s r q p : Bool} {xs ys : List Nat} {e f : Int} {T : TypeId} (hR : w.heap[g]? = some (.cells #[.bool s, .slice A xs.length c, .int .i64 e, .bool r, .slice B ys.length d, .int .i64 f] T (0, 0))) (h : Dg w A c xs) (h' : Dg w B d ys) (hq : dyR s xs e = q) (hp : dyR r ys f = p) (hl : xs.length ≤ 9223372036854775807) (hl' : ys.length ≤ 9223372036854775807) {k : Int} (hk : (if q && p then 0 else 1) = k) :
    Calls Tryd.prog 72 #[.slice (some ⟨g, 0, none⟩) 2 2] w fun e w' => e = .returned (.agg #[.int .i64 k]) ∧ Below w.heap.size w w' := by
  have := begin_any g 2 2 (pk s r) (pk A B) (pk c d) (pk xs ys) (pk e f) (pk q p) w (heap_lt hR) (fun i hi => by
    rcases i with _ | i
    · exact ⟨row_c hR rfl, row_c hR rfl, row_c hR rfl, h⟩
    · obtain rfl : i = 0 := by omega
      exact ⟨row_c hR rfl, row_c hR rfl, row_c hR rfl, h'⟩) (fun i _ => by rcases i with _ | i; exact hq; exact hp) (fun i _ => by rcases i with _ | i; exact hl; exact hl') (by omega) (Nat.le_refl _)
  have e : wrong (pk q p) 2 = k := by rw [← hk]; cases q <;> cases p <;> rfl
  rw [e] at this; exact this
end Go.Proofs.YtnfafgpnnpapdaaDoor
end

section
/-
  dyad.beside.
-/
namespace Go.Proofs.YtnfafgpnnpapdaaDoor
open Go.RowKit
set_option linter.unusedSimpArgs false
set_option linter.unusedVariables false
def Ybs (p q e0 : Int) (w : World) (e : Ending) (w' : World) : Prop := ∃ A c B d, e = .returned (.tuple #[.agg #[.bool (decide (p < 0)), .slice A (digs p.natAbs).length c], .agg #[.bool (decide (q < 0)), .slice B (digs q.natAbs).length d], .int .i64 e0]) ∧ Dg w' A c (digs p.natAbs) ∧ Dg w' B d (digs q.natAbs) ∧ Below w.heap.size w w'

theorem upto_abs (m e g : Int) : (upto m e g).natAbs = m.natAbs * 2 ^ (e - g).toNat := by unfold upto; rw [Int.natAbs_mul, Int.natAbs_pow]; rfl
theorem upto_neg (m e g : Int) : decide (upto m e g < 0) = decide (m < 0) := by
  unfold upto
  have hp : (0 : Int) < 2 ^ (e - g).toNat := Int.pow_pos (by omega)
  rw [decide_eq_decide]
  constructor
  · intro h
    rcases Int.lt_or_le m 0 with h1 | h1
    · exact h1
    · have := Int.mul_nonneg h1 (Int.le_of_lt hp); omega
  · intro h
    have := Int.mul_le_mul_of_nonneg_right (a := m) (b := -1) (by omega) (Int.le_of_lt hp)
    omega
theorem upto_self (m e : Int) : upto m e e = m := by unfold upto; rw [Int.sub_self]; exact Int.mul_one m
theorem lift_z {A : Option Addr} {c : Nat} {m q x e0 : Int} {w : World} (h : Dg w A c (digs m.natAbs)) (hl : (digs m.natAbs).length ≤ 400000) (h0 : e0 ≤ x) (h1 : x - e0 ≤ 1000000) (hq : upto m x e0 = q) :
    Calls Tryd.prog 87 #[.slice A (digs m.natAbs).length c, .int .i64 (x - e0)] w fun e w' => ∃ A' c', e = .returned (.slice A' (digs q.natAbs).length c') ∧ Dg w' A' c' (digs q.natAbs) ∧ Below w.heap.size w w' := by
  have := lift_any A c (digs m.natAbs) (x - e0).toNat w h (by omega) (by omega)
  rw [val_digs, ← upto_abs, hq, show (((x - e0).toNat : Nat) : Int) = x - e0 by omega] at this
  exact this

set_option maxHeartbeats 4000000 in
set_option maxRecDepth 100000 in
theorem beside_lt (A B : Option Addr) (c d : Nat) (m n x y : Int) (w : World) (h : Dg w A c (digs m.natAbs)) (h' : Dg w B d (digs n.natAbs)) (hl : (digs m.natAbs).length ≤ 400000) (hl' : (digs n.natAbs).length ≤ 400000) (x0 : -131072 ≤ x) (x1 : x ≤ 131072) (y0 : -131072 ≤ y) (y1 : y ≤ 131072) {p q e0 : Int} (he : min x y = e0) (hp : upto m x e0 = p) (hq : upto n y e0 = q) (hc : x < y):
    Calls Tryd.prog 76 #[.agg #[.bool (decide (m < 0)), .slice A (digs m.natAbs).length c, .int .i64 x], .agg #[.bool (decide (n < 0)), .slice B (digs n.natAbs).length d, .int .i64 y]] w fun e w' => Ybs p q e0 w e w' := by
  have ex : e0 ≤ x := by omega
  have ey : e0 ≤ y := by omega
  have lx := Lib.hid hl
  have ly := Lib.hid hl'
  have HP := Lib.hid hp
  have HQ := Lib.hid hq
  have d1 : decide (e0 < x) = false := by simp; omega
  have d2 : decide (e0 < y) = true := by simp; omega
  have bx : x - e0 ≤ 1000000 := by omega
  have by_ : y - e0 ≤ 1000000 := by omega
  have bx0 : 0 ≤ x - e0 := by omega
  have by0 : 0 ≤ y - e0 := by omega
  have SQ := Lib.hid (show decide (n < 0) = decide (q < 0) by rw [← hq, upto_neg])
  obtain rfl : m = p := by rw [← hp, show x = e0 by omega, upto_self]
  have L0 := Lib.hid (((live_start w).add h).add h')
  clear hl hl' hp hq h h' hc
  go_enter Tryd.func76, Tryd.ntmps76
  go_wp2_with fail
  obtain ⟨v1, hW⟩ : ∃ W : World, W = ((((w.alloc (.cells #[.bool (decide (m < 0)), .slice A (digs m.natAbs).length c, .int .i64 x] 26)).alloc (.cells #[.bool (decide (n < 0)), .slice B (digs n.natAbs).length d, .int .i64 y] 26)).alloc (.cells #[.bool false, .slice none 0 0] 24)).alloc (.cells #[.bool false, .slice none 0 0] 24)) := ⟨_, rfl⟩
  rw [← hW]
  have hb : Below w.heap.size w v1 := by rw [hW]; exact (((((Below.refl _ _).alloc (by simp <;> omega) _).alloc (by simp <;> omega) _).alloc (by simp <;> omega) _).alloc (by simp <;> omega) _)
  have L1 := Lib.hid (L0.out.step hb)
  have Rx_1 := Lib.hid (show v1.heap[w.heap.size]? = some (.cells #[.bool (decide (m < 0)), .slice A (digs m.natAbs).length c, .int .i64 x] 26 (0, 0)) by rw [hW]; have := heap_alloc_new w (.cells #[.bool (decide (m < 0)), .slice A (digs m.natAbs).length c, .int .i64 x] 26); rw [heap_alloc_old _ _ (by simp <;> omega)]; rw [heap_alloc_old _ _ (by simp <;> omega)]; rw [heap_alloc_old _ _ (by simp <;> omega)]; simpa using this)
  have Gx : w.heap.size ≤ w.heap.size := by have := L0.out.1.size; omega
  have Ry_1 := Lib.hid (show v1.heap[w.heap.size + 1]? = some (.cells #[.bool (decide (n < 0)), .slice B (digs n.natAbs).length d, .int .i64 y] 26 (0, 0)) by rw [hW]; have := heap_alloc_new (w.alloc (.cells #[.bool (decide (m < 0)), .slice A (digs m.natAbs).length c, .int .i64 x] 26)) (.cells #[.bool (decide (n < 0)), .slice B (digs n.natAbs).length d, .int .i64 y] 26); rw [heap_alloc_old _ _ (by simp <;> omega)]; rw [heap_alloc_old _ _ (by simp <;> omega)]; simpa using this)
  have Gy : w.heap.size ≤ w.heap.size + 1 := by have := L0.out.1.size; omega
  have Nxy : w.heap.size < w.heap.size + 1 := by omega
  have Ra_1 := Lib.hid (show v1.heap[w.heap.size + 1 + 1]? = some (.cells #[.bool false, .slice none 0 0] 24 (0, 0)) by rw [hW]; have := heap_alloc_new ((w.alloc (.cells #[.bool (decide (m < 0)), .slice A (digs m.natAbs).length c, .int .i64 x] 26)).alloc (.cells #[.bool (decide (n < 0)), .slice B (digs n.natAbs).length d, .int .i64 y] 26)) (.cells #[.bool false, .slice none 0 0] 24); rw [heap_alloc_old _ _ (by simp <;> omega)]; simpa using this)
  have Ga : w.heap.size ≤ w.heap.size + 1 + 1 := by have := L0.out.1.size; omega
  have Nxa : w.heap.size < w.heap.size + 1 + 1 := by omega
  have Nya : w.heap.size + 1 < w.heap.size + 1 + 1 := by omega
  have Rb_1 := Lib.hid (show v1.heap[w.heap.size + 1 + 1 + 1]? = some (.cells #[.bool false, .slice none 0 0] 24 (0, 0)) by rw [hW]; have := heap_alloc_new (((w.alloc (.cells #[.bool (decide (m < 0)), .slice A (digs m.natAbs).length c, .int .i64 x] 26)).alloc (.cells #[.bool (decide (n < 0)), .slice B (digs n.natAbs).length d, .int .i64 y] 26)).alloc (.cells #[.bool false, .slice none 0 0] 24)) (.cells #[.bool false, .slice none 0 0] 24); simpa using this)
  have Gb : w.heap.size ≤ w.heap.size + 1 + 1 + 1 := by have := L0.out.1.size; omega
  have Nxb : w.heap.size < w.heap.size + 1 + 1 + 1 := by omega
  have Nyb : w.heap.size + 1 < w.heap.size + 1 + 1 + 1 := by omega
  have Nab : w.heap.size + 1 + 1 < w.heap.size + 1 + 1 + 1 := by omega
  clear hW hb
  have fx0 := row_c (i := 0) Rx_1.out rfl
  have zx0 := frozen_of_row _ _ 0 _ _ Rx_1.out
  have fx1 := row_c (i := 1) Rx_1.out rfl
  have zx1 := frozen_of_row _ _ 1 _ _ Rx_1.out
  have fx2 := row_c (i := 2) Rx_1.out rfl
  have zx2 := frozen_of_row _ _ 2 _ _ Rx_1.out
  have xx := heap_lt Rx_1.out
  have fy0 := row_c (i := 0) Ry_1.out rfl
  have zy0 := frozen_of_row _ _ 0 _ _ Ry_1.out
  have fy1 := row_c (i := 1) Ry_1.out rfl
  have zy1 := frozen_of_row _ _ 1 _ _ Ry_1.out
  have fy2 := row_c (i := 2) Ry_1.out rfl
  have zy2 := frozen_of_row _ _ 2 _ _ Ry_1.out
  have xy := heap_lt Ry_1.out
  have fa0 := row_c (i := 0) Ra_1.out rfl
  have za0 := frozen_of_row _ _ 0 _ _ Ra_1.out
  have fa1 := row_c (i := 1) Ra_1.out rfl
  have za1 := frozen_of_row _ _ 1 _ _ Ra_1.out
  have xa := heap_lt Ra_1.out
  have fb0 := row_c (i := 0) Rb_1.out rfl
  have zb0 := frozen_of_row _ _ 0 _ _ Rb_1.out
  have fb1 := row_c (i := 1) Rb_1.out rfl
  have zb1 := frozen_of_row _ _ 1 _ _ Rb_1.out
  have xb := heap_lt Rb_1.out
  go_region
  clear fx0 zx0 fx1 zx1 fx2 zx2 xx fy0 zy0 fy1 zy1 fy2 zy2 xy fa0 za0 fa1 za1 xa fb0 zb0 fb1 zb1 xb
  obtain ⟨w2, hW⟩ : ∃ W : World, W = ((v1.setCell ⟨w.heap.size + 1 + 1, 0, none⟩ (.bool (decide (m < 0)))).setCell ⟨w.heap.size + 1 + 1, 1, none⟩ (.slice A (digs m.natAbs).length c)) := ⟨_, rfl⟩
  rw [← hW]
  have hO : Only (w.heap.size + 1 + 1) v1 w2 := by rw [hW]; exact (((Only.refl (w.heap.size + 1 + 1) v1).setCell 0 _).setCell 1 _)
  have L2 := Lib.hid (live_only L1.out hO Ra_1.out noint_int Ga)
  have Rx_2 := Lib.hid ((hO.block _ (by omega)).trans Rx_1.out)
  have Ry_2 := Lib.hid ((hO.block _ (by omega)).trans Ry_1.out)
  have Rb_2 := Lib.hid ((hO.block _ (by omega)).trans Rb_1.out)
  have Ra_2 := Lib.hid (show w2.heap[w.heap.size + 1 + 1]? = some (.cells #[.bool (decide (m < 0)), .slice A (digs m.natAbs).length c] 24 (0, 0)) by rw [hW]; exact (heap_setCell_same _ _ 1 _ _ _ (heap_setCell_same _ _ 0 _ _ _ Ra_1.out)))
  clear hW hO
  obtain ⟨w3, hW⟩ : ∃ W : World, W = ((w2.setCell ⟨w.heap.size + 1 + 1 + 1, 0, none⟩ (.bool (decide (n < 0)))).setCell ⟨w.heap.size + 1 + 1 + 1, 1, none⟩ (.slice B (digs n.natAbs).length d)) := ⟨_, rfl⟩
  rw [← hW]
  have hO : Only (w.heap.size + 1 + 1 + 1) w2 w3 := by rw [hW]; exact (((Only.refl (w.heap.size + 1 + 1 + 1) w2).setCell 0 _).setCell 1 _)
  have L3 := Lib.hid (live_only L2.out hO Rb_2.out noint_int Gb)
  have Rx_3 := Lib.hid ((hO.block _ (by omega)).trans Rx_2.out)
  have Ry_3 := Lib.hid ((hO.block _ (by omega)).trans Ry_2.out)
  have Ra_3 := Lib.hid ((hO.block _ (by omega)).trans Ra_2.out)
  have Rb_3 := Lib.hid (show w3.heap[w.heap.size + 1 + 1 + 1]? = some (.cells #[.bool (decide (n < 0)), .slice B (digs n.natAbs).length d] 24 (0, 0)) by rw [hW]; exact (heap_setCell_same _ _ 1 _ _ _ (heap_setCell_same _ _ 0 _ _ _ Rb_2.out)))
  clear hW hO
  obtain ⟨w4, hW⟩ : ∃ W : World, W = w3.drew := ⟨_, rfl⟩
  rw [← hW]
  have hb : Below w3.heap.size w3 w4 := by rw [hW]; exact bd0 _
  have L4 := Lib.hid (L3.out.step hb)
  have Rx_4 := Lib.hid (cells_of Rx_3.out hb)
  have Ry_4 := Lib.hid (cells_of Ry_3.out hb)
  have Ra_4 := Lib.hid (cells_of Ra_3.out hb)
  have Rb_4 := Lib.hid (cells_of Rb_3.out hb)
  clear hW hb
  have fx0 := row_c (i := 0) Rx_4.out rfl
  have zx0 := frozen_of_row _ _ 0 _ _ Rx_4.out
  have fx1 := row_c (i := 1) Rx_4.out rfl
  have zx1 := frozen_of_row _ _ 1 _ _ Rx_4.out
  have fx2 := row_c (i := 2) Rx_4.out rfl
  have zx2 := frozen_of_row _ _ 2 _ _ Rx_4.out
  have xx := heap_lt Rx_4.out
  have fy0 := row_c (i := 0) Ry_4.out rfl
  have zy0 := frozen_of_row _ _ 0 _ _ Ry_4.out
  have fy1 := row_c (i := 1) Ry_4.out rfl
  have zy1 := frozen_of_row _ _ 1 _ _ Ry_4.out
  have fy2 := row_c (i := 2) Ry_4.out rfl
  have zy2 := frozen_of_row _ _ 2 _ _ Ry_4.out
  have xy := heap_lt Ry_4.out
  have fa0 := row_c (i := 0) Ra_4.out rfl
  have za0 := frozen_of_row _ _ 0 _ _ Ra_4.out
  have fa1 := row_c (i := 1) Ra_4.out rfl
  have za1 := frozen_of_row _ _ 1 _ _ Ra_4.out
  have xa := heap_lt Ra_4.out
  have fb0 := row_c (i := 0) Rb_4.out rfl
  have zb0 := frozen_of_row _ _ 0 _ _ Rb_4.out
  have fb1 := row_c (i := 1) Rb_4.out rfl
  have zb1 := frozen_of_row _ _ 1 _ _ Rb_4.out
  have xb := heap_lt Rb_4.out
  go_wp2_with fail
  refine (lift_z (x := y) (e0 := e0) (L4.out.get (A := B) (c := d) (xs := digs n.natAbs) (by simp)) ly.out ey by_ HQ.out).mono ?_
  rintro e w5 ⟨A5, c5, rfl, hd, hb⟩
  have L5 := Lib.hid ((L4.out.step hb).add hd)
  clear fx0 zx0 fx1 zx1 fx2 zx2 xx fy0 zy0 fy1 zy1 fy2 zy2 xy fa0 za0 fa1 za1 xa fb0 zb0 fb1 zb1 xb
  have Rx_5 := Lib.hid (cells_of Rx_4.out hb)
  have Ry_5 := Lib.hid (cells_of Ry_4.out hb)
  have Ra_5 := Lib.hid (cells_of Ra_4.out hb)
  have Rb_5 := Lib.hid (cells_of Rb_4.out hb)
  clear hb hd
  have fx0 := row_c (i := 0) Rx_5.out rfl
  have zx0 := frozen_of_row _ _ 0 _ _ Rx_5.out
  have fx1 := row_c (i := 1) Rx_5.out rfl
  have zx1 := frozen_of_row _ _ 1 _ _ Rx_5.out
  have fx2 := row_c (i := 2) Rx_5.out rfl
  have zx2 := frozen_of_row _ _ 2 _ _ Rx_5.out
  have xx := heap_lt Rx_5.out
  have fy0 := row_c (i := 0) Ry_5.out rfl
  have zy0 := frozen_of_row _ _ 0 _ _ Ry_5.out
  have fy1 := row_c (i := 1) Ry_5.out rfl
  have zy1 := frozen_of_row _ _ 1 _ _ Ry_5.out
  have fy2 := row_c (i := 2) Ry_5.out rfl
  have zy2 := frozen_of_row _ _ 2 _ _ Ry_5.out
  have xy := heap_lt Ry_5.out
  have fa0 := row_c (i := 0) Ra_5.out rfl
  have za0 := frozen_of_row _ _ 0 _ _ Ra_5.out
  have fa1 := row_c (i := 1) Ra_5.out rfl
  have za1 := frozen_of_row _ _ 1 _ _ Ra_5.out
  have xa := heap_lt Ra_5.out
  have fb0 := row_c (i := 0) Rb_5.out rfl
  have zb0 := frozen_of_row _ _ 0 _ _ Rb_5.out
  have fb1 := row_c (i := 1) Rb_5.out rfl
  have zb1 := frozen_of_row _ _ 1 _ _ Rb_5.out
  have xb := heap_lt Rb_5.out
  go_wp2_with fail
  obtain ⟨w6, hW⟩ : ∃ W : World, W = (w5.setCell ⟨w.heap.size + 1 + 1 + 1, 1, none⟩ (.slice A5 (digs q.natAbs).length c5)) := ⟨_, rfl⟩
  rw [← hW]
  have hO : Only (w.heap.size + 1 + 1 + 1) w5 w6 := by rw [hW]; exact ((Only.refl (w.heap.size + 1 + 1 + 1) w5).setCell 1 _)
  have L6 := Lib.hid (live_only L5.out hO Rb_5.out noint_int Gb)
  have Rx_6 := Lib.hid ((hO.block _ (by omega)).trans Rx_5.out)
  have Ry_6 := Lib.hid ((hO.block _ (by omega)).trans Ry_5.out)
  have Ra_6 := Lib.hid ((hO.block _ (by omega)).trans Ra_5.out)
  have Rb_6 := Lib.hid (show w6.heap[w.heap.size + 1 + 1 + 1]? = some (.cells #[.bool (decide (n < 0)), .slice A5 (digs q.natAbs).length c5] 24 (0, 0)) by rw [hW]; exact (heap_setCell_same _ _ 1 _ _ _ Rb_5.out))
  clear hW hO
  clear fx0 zx0 fx1 zx1 fx2 zx2 xx fy0 zy0 fy1 zy1 fy2 zy2 xy fa0 za0 fa1 za1 xa fb0 zb0 fb1 zb1 xb
  have fa0 := row_c (i := 0) Ra_6.out rfl
  have za0 := frozen_of_row _ _ 0 _ _ Ra_6.out
  have fa1 := row_c (i := 1) Ra_6.out rfl
  have za1 := frozen_of_row _ _ 1 _ _ Ra_6.out
  have xa := heap_lt Ra_6.out
  have fb0 := row_c (i := 0) Rb_6.out rfl
  have zb0 := frozen_of_row _ _ 0 _ _ Rb_6.out
  have fb1 := row_c (i := 1) Rb_6.out rfl
  have zb1 := frozen_of_row _ _ 1 _ _ Rb_6.out
  have xb := heap_lt Rb_6.out
  go_region
  clear fa0 za0 fa1 za1 xa fb0 zb0 fb1 zb1 xb
  obtain ⟨w7, hW⟩ : ∃ W : World, W = ((w6.setCell ⟨w.heap.size + 1 + 1, 0, none⟩ (.bool (decide (m < 0)))).setCell ⟨w.heap.size + 1 + 1, 1, none⟩ (.slice A (digs m.natAbs).length c)) := ⟨_, rfl⟩
  rw [← hW]
  have hO : Only (w.heap.size + 1 + 1) w6 w7 := by rw [hW]; exact (((Only.refl (w.heap.size + 1 + 1) w6).setCell 0 _).setCell 1 _)
  have L7 := Lib.hid (live_only L6.out hO Ra_6.out noint_int Ga)
  have Rx_7 := Lib.hid ((hO.block _ (by omega)).trans Rx_6.out)
  have Ry_7 := Lib.hid ((hO.block _ (by omega)).trans Ry_6.out)
  have Rb_7 := Lib.hid ((hO.block _ (by omega)).trans Rb_6.out)
  have Ra_7 := Lib.hid (show w7.heap[w.heap.size + 1 + 1]? = some (.cells #[.bool (decide (m < 0)), .slice A (digs m.natAbs).length c] 24 (0, 0)) by rw [hW]; exact (heap_setCell_same _ _ 1 _ _ _ (heap_setCell_same _ _ 0 _ _ _ Ra_6.out)))
  clear hW hO
  obtain ⟨w8, hW⟩ : ∃ W : World, W = ((w7.setCell ⟨w.heap.size + 1 + 1 + 1, 0, none⟩ (.bool (decide (n < 0)))).setCell ⟨w.heap.size + 1 + 1 + 1, 1, none⟩ (.slice A5 (digs q.natAbs).length c5)) := ⟨_, rfl⟩
  rw [← hW]
  have hO : Only (w.heap.size + 1 + 1 + 1) w7 w8 := by rw [hW]; exact (((Only.refl (w.heap.size + 1 + 1 + 1) w7).setCell 0 _).setCell 1 _)
  have L8 := Lib.hid (live_only L7.out hO Rb_7.out noint_int Gb)
  have Rx_8 := Lib.hid ((hO.block _ (by omega)).trans Rx_7.out)
  have Ry_8 := Lib.hid ((hO.block _ (by omega)).trans Ry_7.out)
  have Ra_8 := Lib.hid ((hO.block _ (by omega)).trans Ra_7.out)
  have Rb_8 := Lib.hid (show w8.heap[w.heap.size + 1 + 1 + 1]? = some (.cells #[.bool (decide (n < 0)), .slice A5 (digs q.natAbs).length c5] 24 (0, 0)) by rw [hW]; exact (heap_setCell_same _ _ 1 _ _ _ (heap_setCell_same _ _ 0 _ _ _ Rb_7.out)))
  clear hW hO
  obtain ⟨w9, hW⟩ : ∃ W : World, W = w8.drew := ⟨_, rfl⟩
  rw [← hW]
  have hb : Below w8.heap.size w8 w9 := by rw [hW]; exact bd0 _
  have L9 := Lib.hid (L8.out.step hb)
  have Rx_9 := Lib.hid (cells_of Rx_8.out hb)
  have Ry_9 := Lib.hid (cells_of Ry_8.out hb)
  have Ra_9 := Lib.hid (cells_of Ra_8.out hb)
  have Rb_9 := Lib.hid (cells_of Rb_8.out hb)
  clear hW hb
  have fa0 := row_c (i := 0) Ra_9.out rfl
  have za0 := frozen_of_row _ _ 0 _ _ Ra_9.out
  have fa1 := row_c (i := 1) Ra_9.out rfl
  have za1 := frozen_of_row _ _ 1 _ _ Ra_9.out
  have xa := heap_lt Ra_9.out
  have fb0 := row_c (i := 0) Rb_9.out rfl
  have zb0 := frozen_of_row _ _ 0 _ _ Rb_9.out
  have fb1 := row_c (i := 1) Rb_9.out rfl
  have zb1 := frozen_of_row _ _ 1 _ _ Rb_9.out
  have xb := heap_lt Rb_9.out
  go_wp2
  refine bodyPost_ret (v := .tuple #[.agg #[.bool (decide (m < 0)), .slice A (digs m.natAbs).length c], .agg #[.bool (decide (n < 0)), .slice A5 (digs q.natAbs).length c5], .int .i64 e0]) (by simp [results, Tryd.results76, go_sem, fa0, fa1, fb0, fb1]) rfl ?_
  refine ⟨A, c, A5, c5, ?_, L9.out.get (A := A) (c := c) (xs := digs m.natAbs) (by simp), L9.out.get (A := A5) (c := c5) (xs := digs q.natAbs) (by simp), L9.out.1⟩
  rw [SQ.out]

set_option maxHeartbeats 4000000 in
set_option maxRecDepth 100000 in
theorem beside_gt (A B : Option Addr) (c d : Nat) (m n x y : Int) (w : World) (h : Dg w A c (digs m.natAbs)) (h' : Dg w B d (digs n.natAbs)) (hl : (digs m.natAbs).length ≤ 400000) (hl' : (digs n.natAbs).length ≤ 400000) (x0 : -131072 ≤ x) (x1 : x ≤ 131072) (y0 : -131072 ≤ y) (y1 : y ≤ 131072) {p q e0 : Int} (he : min x y = e0) (hp : upto m x e0 = p) (hq : upto n y e0 = q) (hc : y < x):
    Calls Tryd.prog 76 #[.agg #[.bool (decide (m < 0)), .slice A (digs m.natAbs).length c, .int .i64 x], .agg #[.bool (decide (n < 0)), .slice B (digs n.natAbs).length d, .int .i64 y]] w fun e w' => Ybs p q e0 w e w' := by
  have ex : e0 ≤ x := by omega
  have ey : e0 ≤ y := by omega
  have lx := Lib.hid hl
  have ly := Lib.hid hl'
  have HP := Lib.hid hp
  have HQ := Lib.hid hq
  have d1 : decide (e0 < x) = true := by simp; omega
  have d2 : decide (e0 < y) = false := by simp; omega
  have bx : x - e0 ≤ 1000000 := by omega
  have by_ : y - e0 ≤ 1000000 := by omega
  have bx0 : 0 ≤ x - e0 := by omega
  have by0 : 0 ≤ y - e0 := by omega
  have SP := Lib.hid (show decide (m < 0) = decide (p < 0) by rw [← hp, upto_neg])
  obtain rfl : n = q := by rw [← hq, show y = e0 by omega, upto_self]
  have L0 := Lib.hid (((live_start w).add h).add h')
  clear hl hl' hp hq h h' hc
  go_enter Tryd.func76, Tryd.ntmps76
  go_wp2_with fail
  obtain ⟨v1, hW⟩ : ∃ W : World, W = ((((w.alloc (.cells #[.bool (decide (m < 0)), .slice A (digs m.natAbs).length c, .int .i64 x] 26)).alloc (.cells #[.bool (decide (n < 0)), .slice B (digs n.natAbs).length d, .int .i64 y] 26)).alloc (.cells #[.bool false, .slice none 0 0] 24)).alloc (.cells #[.bool false, .slice none 0 0] 24)) := ⟨_, rfl⟩
  rw [← hW]
  have hb : Below w.heap.size w v1 := by rw [hW]; exact (((((Below.refl _ _).alloc (by simp <;> omega) _).alloc (by simp <;> omega) _).alloc (by simp <;> omega) _).alloc (by simp <;> omega) _)
  have L1 := Lib.hid (L0.out.step hb)
  have Rx_1 := Lib.hid (show v1.heap[w.heap.size]? = some (.cells #[.bool (decide (m < 0)), .slice A (digs m.natAbs).length c, .int .i64 x] 26 (0, 0)) by rw [hW]; have := heap_alloc_new w (.cells #[.bool (decide (m < 0)), .slice A (digs m.natAbs).length c, .int .i64 x] 26); rw [heap_alloc_old _ _ (by simp <;> omega)]; rw [heap_alloc_old _ _ (by simp <;> omega)]; rw [heap_alloc_old _ _ (by simp <;> omega)]; simpa using this)
  have Gx : w.heap.size ≤ w.heap.size := by have := L0.out.1.size; omega
  have Ry_1 := Lib.hid (show v1.heap[w.heap.size + 1]? = some (.cells #[.bool (decide (n < 0)), .slice B (digs n.natAbs).length d, .int .i64 y] 26 (0, 0)) by rw [hW]; have := heap_alloc_new (w.alloc (.cells #[.bool (decide (m < 0)), .slice A (digs m.natAbs).length c, .int .i64 x] 26)) (.cells #[.bool (decide (n < 0)), .slice B (digs n.natAbs).length d, .int .i64 y] 26); rw [heap_alloc_old _ _ (by simp <;> omega)]; rw [heap_alloc_old _ _ (by simp <;> omega)]; simpa using this)
  have Gy : w.heap.size ≤ w.heap.size + 1 := by have := L0.out.1.size; omega
  have Nxy : w.heap.size < w.heap.size + 1 := by omega
  have Ra_1 := Lib.hid (show v1.heap[w.heap.size + 1 + 1]? = some (.cells #[.bool false, .slice none 0 0] 24 (0, 0)) by rw [hW]; have := heap_alloc_new ((w.alloc (.cells #[.bool (decide (m < 0)), .slice A (digs m.natAbs).length c, .int .i64 x] 26)).alloc (.cells #[.bool (decide (n < 0)), .slice B (digs n.natAbs).length d, .int .i64 y] 26)) (.cells #[.bool false, .slice none 0 0] 24); rw [heap_alloc_old _ _ (by simp <;> omega)]; simpa using this)
  have Ga : w.heap.size ≤ w.heap.size + 1 + 1 := by have := L0.out.1.size; omega
  have Nxa : w.heap.size < w.heap.size + 1 + 1 := by omega
  have Nya : w.heap.size + 1 < w.heap.size + 1 + 1 := by omega
  have Rb_1 := Lib.hid (show v1.heap[w.heap.size + 1 + 1 + 1]? = some (.cells #[.bool false, .slice none 0 0] 24 (0, 0)) by rw [hW]; have := heap_alloc_new (((w.alloc (.cells #[.bool (decide (m < 0)), .slice A (digs m.natAbs).length c, .int .i64 x] 26)).alloc (.cells #[.bool (decide (n < 0)), .slice B (digs n.natAbs).length d, .int .i64 y] 26)).alloc (.cells #[.bool false, .slice none 0 0] 24)) (.cells #[.bool false, .slice none 0 0] 24); simpa using this)
  have Gb : w.heap.size ≤ w.heap.size + 1 + 1 + 1 := by have := L0.out.1.size; omega
  have Nxb : w.heap.size < w.heap.size + 1 + 1 + 1 := by omega
  have Nyb : w.heap.size + 1 < w.heap.size + 1 + 1 + 1 := by omega
  have Nab : w.heap.size + 1 + 1 < w.heap.size + 1 + 1 + 1 := by omega
  clear hW hb
  have fx0 := row_c (i := 0) Rx_1.out rfl
  have zx0 := frozen_of_row _ _ 0 _ _ Rx_1.out
  have fx1 := row_c (i := 1) Rx_1.out rfl
  have zx1 := frozen_of_row _ _ 1 _ _ Rx_1.out
  have fx2 := row_c (i := 2) Rx_1.out rfl
  have zx2 := frozen_of_row _ _ 2 _ _ Rx_1.out
  have xx := heap_lt Rx_1.out
  have fy0 := row_c (i := 0) Ry_1.out rfl
  have zy0 := frozen_of_row _ _ 0 _ _ Ry_1.out
  have fy1 := row_c (i := 1) Ry_1.out rfl
  have zy1 := frozen_of_row _ _ 1 _ _ Ry_1.out
  have fy2 := row_c (i := 2) Ry_1.out rfl
  have zy2 := frozen_of_row _ _ 2 _ _ Ry_1.out
  have xy := heap_lt Ry_1.out
  have fa0 := row_c (i := 0) Ra_1.out rfl
  have za0 := frozen_of_row _ _ 0 _ _ Ra_1.out
  have fa1 := row_c (i := 1) Ra_1.out rfl
  have za1 := frozen_of_row _ _ 1 _ _ Ra_1.out
  have xa := heap_lt Ra_1.out
  have fb0 := row_c (i := 0) Rb_1.out rfl
  have zb0 := frozen_of_row _ _ 0 _ _ Rb_1.out
  have fb1 := row_c (i := 1) Rb_1.out rfl
  have zb1 := frozen_of_row _ _ 1 _ _ Rb_1.out
  have xb := heap_lt Rb_1.out
  go_region
  clear fx0 zx0 fx1 zx1 fx2 zx2 xx fy0 zy0 fy1 zy1 fy2 zy2 xy fa0 za0 fa1 za1 xa fb0 zb0 fb1 zb1 xb
  obtain ⟨w2, hW⟩ : ∃ W : World, W = ((v1.setCell ⟨w.heap.size + 1 + 1, 0, none⟩ (.bool (decide (m < 0)))).setCell ⟨w.heap.size + 1 + 1, 1, none⟩ (.slice A (digs m.natAbs).length c)) := ⟨_, rfl⟩
  rw [← hW]
  have hO : Only (w.heap.size + 1 + 1) v1 w2 := by rw [hW]; exact (((Only.refl (w.heap.size + 1 + 1) v1).setCell 0 _).setCell 1 _)
  have L2 := Lib.hid (live_only L1.out hO Ra_1.out noint_int Ga)
  have Rx_2 := Lib.hid ((hO.block _ (by omega)).trans Rx_1.out)
  have Ry_2 := Lib.hid ((hO.block _ (by omega)).trans Ry_1.out)
  have Rb_2 := Lib.hid ((hO.block _ (by omega)).trans Rb_1.out)
  have Ra_2 := Lib.hid (show w2.heap[w.heap.size + 1 + 1]? = some (.cells #[.bool (decide (m < 0)), .slice A (digs m.natAbs).length c] 24 (0, 0)) by rw [hW]; exact (heap_setCell_same _ _ 1 _ _ _ (heap_setCell_same _ _ 0 _ _ _ Ra_1.out)))
  clear hW hO
  obtain ⟨w3, hW⟩ : ∃ W : World, W = ((w2.setCell ⟨w.heap.size + 1 + 1 + 1, 0, none⟩ (.bool (decide (n < 0)))).setCell ⟨w.heap.size + 1 + 1 + 1, 1, none⟩ (.slice B (digs n.natAbs).length d)) := ⟨_, rfl⟩
  rw [← hW]
  have hO : Only (w.heap.size + 1 + 1 + 1) w2 w3 := by rw [hW]; exact (((Only.refl (w.heap.size + 1 + 1 + 1) w2).setCell 0 _).setCell 1 _)
  have L3 := Lib.hid (live_only L2.out hO Rb_2.out noint_int Gb)
  have Rx_3 := Lib.hid ((hO.block _ (by omega)).trans Rx_2.out)
  have Ry_3 := Lib.hid ((hO.block _ (by omega)).trans Ry_2.out)
  have Ra_3 := Lib.hid ((hO.block _ (by omega)).trans Ra_2.out)
  have Rb_3 := Lib.hid (show w3.heap[w.heap.size + 1 + 1 + 1]? = some (.cells #[.bool (decide (n < 0)), .slice B (digs n.natAbs).length d] 24 (0, 0)) by rw [hW]; exact (heap_setCell_same _ _ 1 _ _ _ (heap_setCell_same _ _ 0 _ _ _ Rb_2.out)))
  clear hW hO
  obtain ⟨w4, hW⟩ : ∃ W : World, W = w3.drew := ⟨_, rfl⟩
  rw [← hW]
  have hb : Below w3.heap.size w3 w4 := by rw [hW]; exact bd0 _
  have L4 := Lib.hid (L3.out.step hb)
  have Rx_4 := Lib.hid (cells_of Rx_3.out hb)
  have Ry_4 := Lib.hid (cells_of Ry_3.out hb)
  have Ra_4 := Lib.hid (cells_of Ra_3.out hb)
  have Rb_4 := Lib.hid (cells_of Rb_3.out hb)
  clear hW hb
  have fx0 := row_c (i := 0) Rx_4.out rfl
  have zx0 := frozen_of_row _ _ 0 _ _ Rx_4.out
  have fx1 := row_c (i := 1) Rx_4.out rfl
  have zx1 := frozen_of_row _ _ 1 _ _ Rx_4.out
  have fx2 := row_c (i := 2) Rx_4.out rfl
  have zx2 := frozen_of_row _ _ 2 _ _ Rx_4.out
  have xx := heap_lt Rx_4.out
  have fy0 := row_c (i := 0) Ry_4.out rfl
  have zy0 := frozen_of_row _ _ 0 _ _ Ry_4.out
  have fy1 := row_c (i := 1) Ry_4.out rfl
  have zy1 := frozen_of_row _ _ 1 _ _ Ry_4.out
  have fy2 := row_c (i := 2) Ry_4.out rfl
  have zy2 := frozen_of_row _ _ 2 _ _ Ry_4.out
  have xy := heap_lt Ry_4.out
  have fa0 := row_c (i := 0) Ra_4.out rfl
  have za0 := frozen_of_row _ _ 0 _ _ Ra_4.out
  have fa1 := row_c (i := 1) Ra_4.out rfl
  have za1 := frozen_of_row _ _ 1 _ _ Ra_4.out
  have xa := heap_lt Ra_4.out
  have fb0 := row_c (i := 0) Rb_4.out rfl
  have zb0 := frozen_of_row _ _ 0 _ _ Rb_4.out
  have fb1 := row_c (i := 1) Rb_4.out rfl
  have zb1 := frozen_of_row _ _ 1 _ _ Rb_4.out
  have xb := heap_lt Rb_4.out
  go_wp2_with fail
  refine (lift_z (x := x) (e0 := e0) (L4.out.get (A := A) (c := c) (xs := digs m.natAbs) (by simp)) lx.out ex bx HP.out).mono ?_
  rintro e w5 ⟨A5, c5, rfl, hd, hb⟩
  have L5 := Lib.hid ((L4.out.step hb).add hd)
  clear fx0 zx0 fx1 zx1 fx2 zx2 xx fy0 zy0 fy1 zy1 fy2 zy2 xy fa0 za0 fa1 za1 xa fb0 zb0 fb1 zb1 xb
  have Rx_5 := Lib.hid (cells_of Rx_4.out hb)
  have Ry_5 := Lib.hid (cells_of Ry_4.out hb)
  have Ra_5 := Lib.hid (cells_of Ra_4.out hb)
  have Rb_5 := Lib.hid (cells_of Rb_4.out hb)
  clear hb hd
  have fx0 := row_c (i := 0) Rx_5.out rfl
  have zx0 := frozen_of_row _ _ 0 _ _ Rx_5.out
  have fx1 := row_c (i := 1) Rx_5.out rfl
  have zx1 := frozen_of_row _ _ 1 _ _ Rx_5.out
  have fx2 := row_c (i := 2) Rx_5.out rfl
  have zx2 := frozen_of_row _ _ 2 _ _ Rx_5.out
  have xx := heap_lt Rx_5.out
  have fy0 := row_c (i := 0) Ry_5.out rfl
  have zy0 := frozen_of_row _ _ 0 _ _ Ry_5.out
  have fy1 := row_c (i := 1) Ry_5.out rfl
  have zy1 := frozen_of_row _ _ 1 _ _ Ry_5.out
  have fy2 := row_c (i := 2) Ry_5.out rfl
  have zy2 := frozen_of_row _ _ 2 _ _ Ry_5.out
  have xy := heap_lt Ry_5.out
  have fa0 := row_c (i := 0) Ra_5.out rfl
  have za0 := frozen_of_row _ _ 0 _ _ Ra_5.out
  have fa1 := row_c (i := 1) Ra_5.out rfl
  have za1 := frozen_of_row _ _ 1 _ _ Ra_5.out
  have xa := heap_lt Ra_5.out
  have fb0 := row_c (i := 0) Rb_5.out rfl
  have zb0 := frozen_of_row _ _ 0 _ _ Rb_5.out
  have fb1 := row_c (i := 1) Rb_5.out rfl
  have zb1 := frozen_of_row _ _ 1 _ _ Rb_5.out
  have xb := heap_lt Rb_5.out
  go_wp2_with fail
  obtain ⟨w6, hW⟩ : ∃ W : World, W = (w5.setCell ⟨w.heap.size + 1 + 1, 1, none⟩ (.slice A5 (digs p.natAbs).length c5)) := ⟨_, rfl⟩
  rw [← hW]
  have hO : Only (w.heap.size + 1 + 1) w5 w6 := by rw [hW]; exact ((Only.refl (w.heap.size + 1 + 1) w5).setCell 1 _)
  have L6 := Lib.hid (live_only L5.out hO Ra_5.out noint_int Ga)
  have Rx_6 := Lib.hid ((hO.block _ (by omega)).trans Rx_5.out)
  have Ry_6 := Lib.hid ((hO.block _ (by omega)).trans Ry_5.out)
  have Rb_6 := Lib.hid ((hO.block _ (by omega)).trans Rb_5.out)
  have Ra_6 := Lib.hid (show w6.heap[w.heap.size + 1 + 1]? = some (.cells #[.bool (decide (m < 0)), .slice A5 (digs p.natAbs).length c5] 24 (0, 0)) by rw [hW]; exact (heap_setCell_same _ _ 1 _ _ _ Ra_5.out))
  clear hW hO
  clear fx0 zx0 fx1 zx1 fx2 zx2 xx fy0 zy0 fy1 zy1 fy2 zy2 xy fa0 za0 fa1 za1 xa fb0 zb0 fb1 zb1 xb
  have fa0 := row_c (i := 0) Ra_6.out rfl
  have za0 := frozen_of_row _ _ 0 _ _ Ra_6.out
  have fa1 := row_c (i := 1) Ra_6.out rfl
  have za1 := frozen_of_row _ _ 1 _ _ Ra_6.out
  have xa := heap_lt Ra_6.out
  have fb0 := row_c (i := 0) Rb_6.out rfl
  have zb0 := frozen_of_row _ _ 0 _ _ Rb_6.out
  have fb1 := row_c (i := 1) Rb_6.out rfl
  have zb1 := frozen_of_row _ _ 1 _ _ Rb_6.out
  have xb := heap_lt Rb_6.out
  go_region
  clear fa0 za0 fa1 za1 xa fb0 zb0 fb1 zb1 xb
  obtain ⟨w7, hW⟩ : ∃ W : World, W = ((w6.setCell ⟨w.heap.size + 1 + 1, 0, none⟩ (.bool (decide (m < 0)))).setCell ⟨w.heap.size + 1 + 1, 1, none⟩ (.slice A5 (digs p.natAbs).length c5)) := ⟨_, rfl⟩
  rw [← hW]
  have hO : Only (w.heap.size + 1 + 1) w6 w7 := by rw [hW]; exact (((Only.refl (w.heap.size + 1 + 1) w6).setCell 0 _).setCell 1 _)
  have L7 := Lib.hid (live_only L6.out hO Ra_6.out noint_int Ga)
  have Rx_7 := Lib.hid ((hO.block _ (by omega)).trans Rx_6.out)
  have Ry_7 := Lib.hid ((hO.block _ (by omega)).trans Ry_6.out)
  have Rb_7 := Lib.hid ((hO.block _ (by omega)).trans Rb_6.out)
  have Ra_7 := Lib.hid (show w7.heap[w.heap.size + 1 + 1]? = some (.cells #[.bool (decide (m < 0)), .slice A5 (digs p.natAbs).length c5] 24 (0, 0)) by rw [hW]; exact (heap_setCell_same _ _ 1 _ _ _ (heap_setCell_same _ _ 0 _ _ _ Ra_6.out)))
  clear hW hO
  obtain ⟨w8, hW⟩ : ∃ W : World, W = ((w7.setCell ⟨w.heap.size + 1 + 1 + 1, 0, none⟩ (.bool (decide (n < 0)))).setCell ⟨w.heap.size + 1 + 1 + 1, 1, none⟩ (.slice B (digs n.natAbs).length d)) := ⟨_, rfl⟩
  rw [← hW]
  have hO : Only (w.heap.size + 1 + 1 + 1) w7 w8 := by rw [hW]; exact (((Only.refl (w.heap.size + 1 + 1 + 1) w7).setCell 0 _).setCell 1 _)
  have L8 := Lib.hid (live_only L7.out hO Rb_7.out noint_int Gb)
  have Rx_8 := Lib.hid ((hO.block _ (by omega)).trans Rx_7.out)
  have Ry_8 := Lib.hid ((hO.block _ (by omega)).trans Ry_7.out)
  have Ra_8 := Lib.hid ((hO.block _ (by omega)).trans Ra_7.out)
  have Rb_8 := Lib.hid (show w8.heap[w.heap.size + 1 + 1 + 1]? = some (.cells #[.bool (decide (n < 0)), .slice B (digs n.natAbs).length d] 24 (0, 0)) by rw [hW]; exact (heap_setCell_same _ _ 1 _ _ _ (heap_setCell_same _ _ 0 _ _ _ Rb_7.out)))
  clear hW hO
  obtain ⟨w9, hW⟩ : ∃ W : World, W = w8.drew := ⟨_, rfl⟩
  rw [← hW]
  have hb : Below w8.heap.size w8 w9 := by rw [hW]; exact bd0 _
  have L9 := Lib.hid (L8.out.step hb)
  have Rx_9 := Lib.hid (cells_of Rx_8.out hb)
  have Ry_9 := Lib.hid (cells_of Ry_8.out hb)
  have Ra_9 := Lib.hid (cells_of Ra_8.out hb)
  have Rb_9 := Lib.hid (cells_of Rb_8.out hb)
  clear hW hb
  have fa0 := row_c (i := 0) Ra_9.out rfl
  have za0 := frozen_of_row _ _ 0 _ _ Ra_9.out
  have fa1 := row_c (i := 1) Ra_9.out rfl
  have za1 := frozen_of_row _ _ 1 _ _ Ra_9.out
  have xa := heap_lt Ra_9.out
  have fb0 := row_c (i := 0) Rb_9.out rfl
  have zb0 := frozen_of_row _ _ 0 _ _ Rb_9.out
  have fb1 := row_c (i := 1) Rb_9.out rfl
  have zb1 := frozen_of_row _ _ 1 _ _ Rb_9.out
  have xb := heap_lt Rb_9.out
  go_wp2
  refine bodyPost_ret (v := .tuple #[.agg #[.bool (decide (m < 0)), .slice A5 (digs p.natAbs).length c5], .agg #[.bool (decide (n < 0)), .slice B (digs n.natAbs).length d], .int .i64 e0]) (by simp [results, Tryd.results76, go_sem, fa0, fa1, fb0, fb1]) rfl ?_
  refine ⟨A5, c5, B, d, ?_, L9.out.get (A := A5) (c := c5) (xs := digs p.natAbs) (by simp), L9.out.get (A := B) (c := d) (xs := digs n.natAbs) (by simp), L9.out.1⟩
  rw [SP.out]

set_option maxHeartbeats 4000000 in
set_option maxRecDepth 100000 in
theorem beside_eq (A B : Option Addr) (c d : Nat) (m n x y : Int) (w : World) (h : Dg w A c (digs m.natAbs)) (h' : Dg w B d (digs n.natAbs)) (hl : (digs m.natAbs).length ≤ 400000) (hl' : (digs n.natAbs).length ≤ 400000) (x0 : -131072 ≤ x) (x1 : x ≤ 131072) (y0 : -131072 ≤ y) (y1 : y ≤ 131072) {p q e0 : Int} (he : min x y = e0) (hp : upto m x e0 = p) (hq : upto n y e0 = q) (hc : x = y):
    Calls Tryd.prog 76 #[.agg #[.bool (decide (m < 0)), .slice A (digs m.natAbs).length c, .int .i64 x], .agg #[.bool (decide (n < 0)), .slice B (digs n.natAbs).length d, .int .i64 y]] w fun e w' => Ybs p q e0 w e w' := by
  have ex : e0 ≤ x := by omega
  have ey : e0 ≤ y := by omega
  have lx := Lib.hid hl
  have ly := Lib.hid hl'
  have HP := Lib.hid hp
  have HQ := Lib.hid hq
  have d1 : decide (e0 < x) = false := by simp; omega
  have d2 : decide (e0 < y) = false := by simp; omega
  have bx : x - e0 ≤ 1000000 := by omega
  have by_ : y - e0 ≤ 1000000 := by omega
  have bx0 : 0 ≤ x - e0 := by omega
  have by0 : 0 ≤ y - e0 := by omega
  obtain rfl : m = p := by rw [← hp, show x = e0 by omega, upto_self]
  obtain rfl : n = q := by rw [← hq, show y = e0 by omega, upto_self]
  have L0 := Lib.hid (((live_start w).add h).add h')
  clear hl hl' hp hq h h' hc
  go_enter Tryd.func76, Tryd.ntmps76
  go_wp2_with fail
  obtain ⟨v1, hW⟩ : ∃ W : World, W = ((((w.alloc (.cells #[.bool (decide (m < 0)), .slice A (digs m.natAbs).length c, .int .i64 x] 26)).alloc (.cells #[.bool (decide (n < 0)), .slice B (digs n.natAbs).length d, .int .i64 y] 26)).alloc (.cells #[.bool false, .slice none 0 0] 24)).alloc (.cells #[.bool false, .slice none 0 0] 24)) := ⟨_, rfl⟩
  rw [← hW]
  have hb : Below w.heap.size w v1 := by rw [hW]; exact (((((Below.refl _ _).alloc (by simp <;> omega) _).alloc (by simp <;> omega) _).alloc (by simp <;> omega) _).alloc (by simp <;> omega) _)
  have L1 := Lib.hid (L0.out.step hb)
  have Rx_1 := Lib.hid (show v1.heap[w.heap.size]? = some (.cells #[.bool (decide (m < 0)), .slice A (digs m.natAbs).length c, .int .i64 x] 26 (0, 0)) by rw [hW]; have := heap_alloc_new w (.cells #[.bool (decide (m < 0)), .slice A (digs m.natAbs).length c, .int .i64 x] 26); rw [heap_alloc_old _ _ (by simp <;> omega)]; rw [heap_alloc_old _ _ (by simp <;> omega)]; rw [heap_alloc_old _ _ (by simp <;> omega)]; simpa using this)
  have Gx : w.heap.size ≤ w.heap.size := by have := L0.out.1.size; omega
  have Ry_1 := Lib.hid (show v1.heap[w.heap.size + 1]? = some (.cells #[.bool (decide (n < 0)), .slice B (digs n.natAbs).length d, .int .i64 y] 26 (0, 0)) by rw [hW]; have := heap_alloc_new (w.alloc (.cells #[.bool (decide (m < 0)), .slice A (digs m.natAbs).length c, .int .i64 x] 26)) (.cells #[.bool (decide (n < 0)), .slice B (digs n.natAbs).length d, .int .i64 y] 26); rw [heap_alloc_old _ _ (by simp <;> omega)]; rw [heap_alloc_old _ _ (by simp <;> omega)]; simpa using this)
  have Gy : w.heap.size ≤ w.heap.size + 1 := by have := L0.out.1.size; omega
  have Nxy : w.heap.size < w.heap.size + 1 := by omega
  have Ra_1 := Lib.hid (show v1.heap[w.heap.size + 1 + 1]? = some (.cells #[.bool false, .slice none 0 0] 24 (0, 0)) by rw [hW]; have := heap_alloc_new ((w.alloc (.cells #[.bool (decide (m < 0)), .slice A (digs m.natAbs).length c, .int .i64 x] 26)).alloc (.cells #[.bool (decide (n < 0)), .slice B (digs n.natAbs).length d, .int .i64 y] 26)) (.cells #[.bool false, .slice none 0 0] 24); rw [heap_alloc_old _ _ (by simp <;> omega)]; simpa using this)
  have Ga : w.heap.size ≤ w.heap.size + 1 + 1 := by have := L0.out.1.size; omega
  have Nxa : w.heap.size < w.heap.size + 1 + 1 := by omega
  have Nya : w.heap.size + 1 < w.heap.size + 1 + 1 := by omega
  have Rb_1 := Lib.hid (show v1.heap[w.heap.size + 1 + 1 + 1]? = some (.cells #[.bool false, .slice none 0 0] 24 (0, 0)) by rw [hW]; have := heap_alloc_new (((w.alloc (.cells #[.bool (decide (m < 0)), .slice A (digs m.natAbs).length c, .int .i64 x] 26)).alloc (.cells #[.bool (decide (n < 0)), .slice B (digs n.natAbs).length d, .int .i64 y] 26)).alloc (.cells #[.bool false, .slice none 0 0] 24)) (.cells #[.bool false, .slice none 0 0] 24); simpa using this)
  have Gb : w.heap.size ≤ w.heap.size + 1 + 1 + 1 := by have := L0.out.1.size; omega
  have Nxb : w.heap.size < w.heap.size + 1 + 1 + 1 := by omega
  have Nyb : w.heap.size + 1 < w.heap.size + 1 + 1 + 1 := by omega
  have Nab : w.heap.size + 1 + 1 < w.heap.size + 1 + 1 + 1 := by omega
  clear hW hb
  have fx0 := row_c (i := 0) Rx_1.out rfl
  have zx0 := frozen_of_row _ _ 0 _ _ Rx_1.out
  have fx1 := row_c (i := 1) Rx_1.out rfl
  have zx1 := frozen_of_row _ _ 1 _ _ Rx_1.out
  have fx2 := row_c (i := 2) Rx_1.out rfl
  have zx2 := frozen_of_row _ _ 2 _ _ Rx_1.out
  have xx := heap_lt Rx_1.out
  have fy0 := row_c (i := 0) Ry_1.out rfl
  have zy0 := frozen_of_row _ _ 0 _ _ Ry_1.out
  have fy1 := row_c (i := 1) Ry_1.out rfl
  have zy1 := frozen_of_row _ _ 1 _ _ Ry_1.out
  have fy2 := row_c (i := 2) Ry_1.out rfl
  have zy2 := frozen_of_row _ _ 2 _ _ Ry_1.out
  have xy := heap_lt Ry_1.out
  have fa0 := row_c (i := 0) Ra_1.out rfl
  have za0 := frozen_of_row _ _ 0 _ _ Ra_1.out
  have fa1 := row_c (i := 1) Ra_1.out rfl
  have za1 := frozen_of_row _ _ 1 _ _ Ra_1.out
  have xa := heap_lt Ra_1.out
  have fb0 := row_c (i := 0) Rb_1.out rfl
  have zb0 := frozen_of_row _ _ 0 _ _ Rb_1.out
  have fb1 := row_c (i := 1) Rb_1.out rfl
  have zb1 := frozen_of_row _ _ 1 _ _ Rb_1.out
  have xb := heap_lt Rb_1.out
  go_region
  clear fx0 zx0 fx1 zx1 fx2 zx2 xx fy0 zy0 fy1 zy1 fy2 zy2 xy fa0 za0 fa1 za1 xa fb0 zb0 fb1 zb1 xb
  obtain ⟨w2, hW⟩ : ∃ W : World, W = ((v1.setCell ⟨w.heap.size + 1 + 1, 0, none⟩ (.bool (decide (m < 0)))).setCell ⟨w.heap.size + 1 + 1, 1, none⟩ (.slice A (digs m.natAbs).length c)) := ⟨_, rfl⟩
  rw [← hW]
  have hO : Only (w.heap.size + 1 + 1) v1 w2 := by rw [hW]; exact (((Only.refl (w.heap.size + 1 + 1) v1).setCell 0 _).setCell 1 _)
  have L2 := Lib.hid (live_only L1.out hO Ra_1.out noint_int Ga)
  have Rx_2 := Lib.hid ((hO.block _ (by omega)).trans Rx_1.out)
  have Ry_2 := Lib.hid ((hO.block _ (by omega)).trans Ry_1.out)
  have Rb_2 := Lib.hid ((hO.block _ (by omega)).trans Rb_1.out)
  have Ra_2 := Lib.hid (show w2.heap[w.heap.size + 1 + 1]? = some (.cells #[.bool (decide (m < 0)), .slice A (digs m.natAbs).length c] 24 (0, 0)) by rw [hW]; exact (heap_setCell_same _ _ 1 _ _ _ (heap_setCell_same _ _ 0 _ _ _ Ra_1.out)))
  clear hW hO
  obtain ⟨w3, hW⟩ : ∃ W : World, W = ((w2.setCell ⟨w.heap.size + 1 + 1 + 1, 0, none⟩ (.bool (decide (n < 0)))).setCell ⟨w.heap.size + 1 + 1 + 1, 1, none⟩ (.slice B (digs n.natAbs).length d)) := ⟨_, rfl⟩
  rw [← hW]
  have hO : Only (w.heap.size + 1 + 1 + 1) w2 w3 := by rw [hW]; exact (((Only.refl (w.heap.size + 1 + 1 + 1) w2).setCell 0 _).setCell 1 _)
  have L3 := Lib.hid (live_only L2.out hO Rb_2.out noint_int Gb)
  have Rx_3 := Lib.hid ((hO.block _ (by omega)).trans Rx_2.out)
  have Ry_3 := Lib.hid ((hO.block _ (by omega)).trans Ry_2.out)
  have Ra_3 := Lib.hid ((hO.block _ (by omega)).trans Ra_2.out)
  have Rb_3 := Lib.hid (show w3.heap[w.heap.size + 1 + 1 + 1]? = some (.cells #[.bool (decide (n < 0)), .slice B (digs n.natAbs).length d] 24 (0, 0)) by rw [hW]; exact (heap_setCell_same _ _ 1 _ _ _ (heap_setCell_same _ _ 0 _ _ _ Rb_2.out)))
  clear hW hO
  obtain ⟨w4, hW⟩ : ∃ W : World, W = w3.drew := ⟨_, rfl⟩
  rw [← hW]
  have hb : Below w3.heap.size w3 w4 := by rw [hW]; exact bd0 _
  have L4 := Lib.hid (L3.out.step hb)
  have Rx_4 := Lib.hid (cells_of Rx_3.out hb)
  have Ry_4 := Lib.hid (cells_of Ry_3.out hb)
  have Ra_4 := Lib.hid (cells_of Ra_3.out hb)
  have Rb_4 := Lib.hid (cells_of Rb_3.out hb)
  clear hW hb
  have fx0 := row_c (i := 0) Rx_4.out rfl
  have zx0 := frozen_of_row _ _ 0 _ _ Rx_4.out
  have fx1 := row_c (i := 1) Rx_4.out rfl
  have zx1 := frozen_of_row _ _ 1 _ _ Rx_4.out
  have fx2 := row_c (i := 2) Rx_4.out rfl
  have zx2 := frozen_of_row _ _ 2 _ _ Rx_4.out
  have xx := heap_lt Rx_4.out
  have fy0 := row_c (i := 0) Ry_4.out rfl
  have zy0 := frozen_of_row _ _ 0 _ _ Ry_4.out
  have fy1 := row_c (i := 1) Ry_4.out rfl
  have zy1 := frozen_of_row _ _ 1 _ _ Ry_4.out
  have fy2 := row_c (i := 2) Ry_4.out rfl
  have zy2 := frozen_of_row _ _ 2 _ _ Ry_4.out
  have xy := heap_lt Ry_4.out
  go_wp2_with fail
  clear fx0 zx0 fx1 zx1 fx2 zx2 xx fy0 zy0 fy1 zy1 fy2 zy2 xy
  have fa0 := row_c (i := 0) Ra_4.out rfl
  have za0 := frozen_of_row _ _ 0 _ _ Ra_4.out
  have fa1 := row_c (i := 1) Ra_4.out rfl
  have za1 := frozen_of_row _ _ 1 _ _ Ra_4.out
  have xa := heap_lt Ra_4.out
  have fb0 := row_c (i := 0) Rb_4.out rfl
  have zb0 := frozen_of_row _ _ 0 _ _ Rb_4.out
  have fb1 := row_c (i := 1) Rb_4.out rfl
  have zb1 := frozen_of_row _ _ 1 _ _ Rb_4.out
  have xb := heap_lt Rb_4.out
  go_region
  clear fa0 za0 fa1 za1 xa fb0 zb0 fb1 zb1 xb
  obtain ⟨w5, hW⟩ : ∃ W : World, W = ((w4.setCell ⟨w.heap.size + 1 + 1, 0, none⟩ (.bool (decide (m < 0)))).setCell ⟨w.heap.size + 1 + 1, 1, none⟩ (.slice A (digs m.natAbs).length c)) := ⟨_, rfl⟩
  rw [← hW]
  have hO : Only (w.heap.size + 1 + 1) w4 w5 := by rw [hW]; exact (((Only.refl (w.heap.size + 1 + 1) w4).setCell 0 _).setCell 1 _)
  have L5 := Lib.hid (live_only L4.out hO Ra_4.out noint_int Ga)
  have Rx_5 := Lib.hid ((hO.block _ (by omega)).trans Rx_4.out)
  have Ry_5 := Lib.hid ((hO.block _ (by omega)).trans Ry_4.out)
  have Rb_5 := Lib.hid ((hO.block _ (by omega)).trans Rb_4.out)
  have Ra_5 := Lib.hid (show w5.heap[w.heap.size + 1 + 1]? = some (.cells #[.bool (decide (m < 0)), .slice A (digs m.natAbs).length c] 24 (0, 0)) by rw [hW]; exact (heap_setCell_same _ _ 1 _ _ _ (heap_setCell_same _ _ 0 _ _ _ Ra_4.out)))
  clear hW hO
  obtain ⟨w6, hW⟩ : ∃ W : World, W = ((w5.setCell ⟨w.heap.size + 1 + 1 + 1, 0, none⟩ (.bool (decide (n < 0)))).setCell ⟨w.heap.size + 1 + 1 + 1, 1, none⟩ (.slice B (digs n.natAbs).length d)) := ⟨_, rfl⟩
  rw [← hW]
  have hO : Only (w.heap.size + 1 + 1 + 1) w5 w6 := by rw [hW]; exact (((Only.refl (w.heap.size + 1 + 1 + 1) w5).setCell 0 _).setCell 1 _)
  have L6 := Lib.hid (live_only L5.out hO Rb_5.out noint_int Gb)
  have Rx_6 := Lib.hid ((hO.block _ (by omega)).trans Rx_5.out)
  have Ry_6 := Lib.hid ((hO.block _ (by omega)).trans Ry_5.out)
  have Ra_6 := Lib.hid ((hO.block _ (by omega)).trans Ra_5.out)
  have Rb_6 := Lib.hid (show w6.heap[w.heap.size + 1 + 1 + 1]? = some (.cells #[.bool (decide (n < 0)), .slice B (digs n.natAbs).length d] 24 (0, 0)) by rw [hW]; exact (heap_setCell_same _ _ 1 _ _ _ (heap_setCell_same _ _ 0 _ _ _ Rb_5.out)))
  clear hW hO
  obtain ⟨w7, hW⟩ : ∃ W : World, W = w6.drew := ⟨_, rfl⟩
  rw [← hW]
  have hb : Below w6.heap.size w6 w7 := by rw [hW]; exact bd0 _
  have L7 := Lib.hid (L6.out.step hb)
  have Rx_7 := Lib.hid (cells_of Rx_6.out hb)
  have Ry_7 := Lib.hid (cells_of Ry_6.out hb)
  have Ra_7 := Lib.hid (cells_of Ra_6.out hb)
  have Rb_7 := Lib.hid (cells_of Rb_6.out hb)
  clear hW hb
  have fa0 := row_c (i := 0) Ra_7.out rfl
  have za0 := frozen_of_row _ _ 0 _ _ Ra_7.out
  have fa1 := row_c (i := 1) Ra_7.out rfl
  have za1 := frozen_of_row _ _ 1 _ _ Ra_7.out
  have xa := heap_lt Ra_7.out
  have fb0 := row_c (i := 0) Rb_7.out rfl
  have zb0 := frozen_of_row _ _ 0 _ _ Rb_7.out
  have fb1 := row_c (i := 1) Rb_7.out rfl
  have zb1 := frozen_of_row _ _ 1 _ _ Rb_7.out
  have xb := heap_lt Rb_7.out
  go_wp2
  refine bodyPost_ret (v := .tuple #[.agg #[.bool (decide (m < 0)), .slice A (digs m.natAbs).length c], .agg #[.bool (decide (n < 0)), .slice B (digs n.natAbs).length d], .int .i64 e0]) (by simp [results, Tryd.results76, go_sem, fa0, fa1, fb0, fb1]) rfl ?_
  refine ⟨A, c, B, d, ?_, L7.out.get (A := A) (c := c) (xs := digs m.natAbs) (by simp), L7.out.get (A := B) (c := d) (xs := digs n.natAbs) (by simp), L7.out.1⟩
  rfl
end Go.Proofs.YtnfafgpnnpapdaaDoor
end

section
/-
  dyad.against, Cmp.
-/
namespace Go.Proofs.YtnfafgpnnpapdaaDoor
open Go.RowKit
set_option linter.unusedSimpArgs false
set_option linter.unusedVariables false
theorem beside_any {A B : Option Addr} {c d : Nat} {m n x y : Int} {w : World} (h : Dg w A c (digs m.natAbs)) (h' : Dg w B d (digs n.natAbs)) (hl : (digs m.natAbs).length ≤ 400000) (hl' : (digs n.natAbs).length ≤ 400000) (x0 : -131072 ≤ x) (x1 : x ≤ 131072) (y0 : -131072 ≤ y) (y1 : y ≤ 131072) {p q e0 : Int} (he : min x y = e0) (hp : upto m x e0 = p) (hq : upto n y e0 = q) :
    Calls Tryd.prog 76 #[.agg #[.bool (decide (m < 0)), .slice A (digs m.natAbs).length c, .int .i64 x], .agg #[.bool (decide (n < 0)), .slice B (digs n.natAbs).length d, .int .i64 y]] w fun e w' => Ybs p q e0 w e w' := by
  rcases Int.lt_trichotomy x y with hc | hc | hc
  · exact beside_lt A B c d m n x y w h h' hl hl' x0 x1 y0 y1 he hp hq hc
  · exact beside_eq A B c d m n x y w h h' hl hl' x0 x1 y0 y1 he hp hq hc
  · exact beside_gt A B c d m n x y w h h' hl hl' x0 x1 y0 y1 he hp hq hc
theorem cmp_b {A B : Option Addr} {c d x y : Nat} {q : Int} {w : World} (h : Dg w A c (digs x)) (h' : Dg w B d (digs y)) (hl : (digs x).length ≤ 1000000) (hl' : (digs y).length ≤ 1000000) (hq : cmpi x y = q) :
    Calls Tryd.prog 113 #[.slice A (digs x).length c, .slice B (digs y).length d] w fun e w' => e = .returned (.int .i64 q) ∧ Below w.heap.size w w' := by
  have := cmp_any A B c d (digs x) (digs y) w h h' (by omega) (by omega)
  rw [val_digs, val_digs, hq] at this
  exact this.mono fun e w' ⟨he, n, hw⟩ => ⟨he, by rw [hw]; exact below_drewN (Below.refl _ _) _⟩
theorem bits_b {A : Option Addr} {c x : Nat} {z : Int} {w : World} (h : Dg w A c (digs x)) (hl : (digs x).length ≤ 1000000) (hz : (blen x : Int) = z) :
    Calls Tryd.prog 64 #[.slice A (digs x).length c] w fun e w' => e = .returned (.int .i64 z) ∧ w = w' := by
  have := bits_any A c (digs x) w h (by omega)
  rw [val_digs, hz] at this; exact this
theorem bl_bd {m : Int} {k : Nat} (h : (digs m.natAbs).length ≤ k) : blen m.natAbs ≤ 32 * k := by
  refine blen_le ?_
  have := val_lt (ok_digs m.natAbs)
  rw [val_digs] at this
  refine Nat.lt_of_lt_of_le this ?_
  rw [show (4294967296 : Nat) = 2 ^ 32 from rfl, ← Nat.pow_mul]
  exact Nat.pow_le_pow_right (by omega) (by omega)
theorem len_bl (m : Int) : (digs m.natAbs).length ≤ bl m / 32 + 1 := by
  refine digs_len_lt ?_
  by_cases h : m.natAbs = 0
  · rw [h]; exact Nat.pow_pos (by omega)
  · have ⟨_, b, _⟩ := blen_bd m.natAbs h
    refine Nat.lt_of_lt_of_le b ?_
    rw [show (4294967296 : Nat) = 2 ^ 32 from rfl, ← Nat.pow_mul]
    refine Nat.pow_le_pow_right (by omega) ?_
    unfold bl; omega
/-- Cmp of two numbers without their signs. -/
def agq (m x n y : Int) : Int := if x + bl m < y + bl n then -1 else if y + bl n < x + bl m then 1 else cmpi (upto m x (min x y)).natAbs (upto n y (min x y)).natAbs
theorem agq_bd (m x n y : Int) : -1 ≤ agq m x n y ∧ agq m x n y ≤ 1 := by
  unfold agq
  have := cmpi_three (upto m x (min x y)).natAbs (upto n y (min x y)).natAbs
  split
  · omega
  · split <;> omega
theorem agq_pos {m x n y : Int} (hm : 0 < m) (hn : 0 < n) : agq m x n y = cmpd (dv m x) (dv n y) := by
  unfold agq
  split
  · rename_i h; rw [cmpd_lt (cmpd_size hm hn h)]
  · split
    · rename_i h; rw [cmpd_gt (cmpd_size hn hm h)]
    · have hx : min x y ≤ x := by omega
      have hy : min x y ≤ y := by omega
      generalize min x y = g at *
      rw [← dv_upto (m := m) hx, ← dv_upto (m := n) hy, cmpd_same]
      have e1 : 0 ≤ upto m x g := Int.mul_nonneg (by omega) (Int.le_of_lt (Int.pow_pos (by omega)))
      have e2 : 0 ≤ upto n y g := Int.mul_nonneg (by omega) (Int.le_of_lt (Int.pow_pos (by omega)))
      rcases cmpi_three (upto m x g).natAbs (upto n y g).natAbs with ⟨h, k⟩ | ⟨h, k⟩ | ⟨h, k⟩
      · rw [k, if_pos (by omega)]
      · rw [k, if_neg (by omega), if_neg (by omega)]
      · rw [k, if_neg (by omega), if_pos (by omega)]
theorem agq_abs (m x n y : Int) : agq m x n y = agq (m.natAbs : Int) x (n.natAbs : Int) y := by
  unfold agq bl
  rw [upto_abs, upto_abs, upto_abs, upto_abs]
  simp only [Int.natAbs_natCast]
theorem cmp_same {m x n y : Int} (h : Int.sign m = Int.sign n) (hx : Nf m x) (hy : Nf n y) : Int.sign m * agq m x n y = cmpd (dv m x) (dv n y) := by
  have e1 := sign_three m
  have e2 := sign_three n
  rcases e1 with ⟨a, b⟩ | ⟨a, b⟩ | ⟨a, b⟩
  · have hn : n < 0 := by omega
    rw [b, agq_abs, agq_pos (by omega) (by omega)]
    have f1 : dv (m.natAbs : Int) x = -dv m x := by rw [← dv_neg]; congr 1; omega
    have f2 : dv (n.natAbs : Int) y = -dv n y := by rw [← dv_neg]; congr 1; omega
    rw [f1, f2, cmpd_neg]; omega
  · have hn : n = 0 := by omega
    rw [b, Int.zero_mul, a, hn, dv_zero, dv_zero, cmpd_eq rfl]
  · rw [b, Int.one_mul, agq_pos a (by omega)]
theorem cmp_less {m x n y : Int} (h : Int.sign m < Int.sign n) : cmpd (dv m x) (dv n y) = -1 := by
  have e1 := sign_three m
  have e2 := sign_three n
  refine cmpd_lt ?_
  by_cases hm : m < 0
  · have h1 := dv_neg0 (e := x) |>.2 hm
    have h2 : 0 ≤ dv n y := dv_nonneg.2 (by omega)
    exact rlt_le h1 h2
  · have h1 : dv m x = 0 := dv_eq0.2 (by omega)
    rw [h1]; exact dv_pos.2 (by omega)
theorem cmp_more {m x n y : Int} (h : Int.sign n < Int.sign m) : cmpd (dv m x) (dv n y) = 1 := by
  have := cmp_less (m := n) (x := y) (n := m) (y := x) h
  rw [cmpd_swap, this]; rfl

theorem upto_len {m x e0 : Int} (hl : (digs m.natAbs).length ≤ 400000) (h : x - e0 ≤ 1000000) : (digs (upto m x e0).natAbs).length ≤ 1000000 := by
  have h1 := bl_bd hl
  have h2 := len_bl (upto m x e0)
  have h3 : bl (upto m x e0) ≤ 12800000 + 1000000 := by
    unfold bl
    by_cases h0 : m.natAbs = 0
    · rw [upto_abs, h0, Nat.zero_mul, blen_zero]; omega
    · rw [upto_abs, blen_up h0]; omega
  omega

set_option maxHeartbeats 4000000 in
set_option maxRecDepth 100000 in
theorem against_lt (A B : Option Addr) (c d : Nat) (m n x y : Int) (w : World) (h : Dg w A c (digs m.natAbs)) (h' : Dg w B d (digs n.natAbs)) (hl : (digs m.natAbs).length ≤ 400000) (hl' : (digs n.natAbs).length ≤ 400000) (x0 : -131072 ≤ x) (x1 : x ≤ 131072) (y0 : -131072 ≤ y) (y1 : y ≤ 131072) (hc : x + bl m < y + bl n):
    Calls Tryd.prog 67 #[.agg #[.bool (decide (m < 0)), .slice A (digs m.natAbs).length c, .int .i64 x], .agg #[.bool (decide (n < 0)), .slice B (digs n.natAbs).length d, .int .i64 y]] w fun e w' => e = .returned (.int .i64 (-1)) ∧ Below w.heap.size w w' := by
  have b1 := bl_bd hl
  have b2 := bl_bd hl'
  unfold bl at hc
  obtain ⟨z1, hz1⟩ : ∃ z : Int, (blen m.natAbs : Int) = z := ⟨_, rfl⟩
  obtain ⟨z2, hz2⟩ : ∃ z : Int, (blen n.natAbs : Int) = z := ⟨_, rfl⟩
  rw [hz1, hz2] at hc
  have k1 : 0 ≤ z1 ∧ z1 ≤ 13000000 := by omega
  have k2 : 0 ≤ z2 ∧ z2 ≤ 13000000 := by omega
  obtain ⟨k10, k11⟩ := k1
  obtain ⟨k20, k21⟩ := k2
  have lx := Lib.hid hl
  have ly := Lib.hid hl'
  have HZ1 := Lib.hid hz1
  have HZ2 := Lib.hid hz2
  obtain ⟨s1, hs1⟩ : ∃ s : Int, x + z1 = s := ⟨_, rfl⟩
  obtain ⟨s2, hs2⟩ : ∃ s : Int, y + z2 = s := ⟨_, rfl⟩
  rw [hs1, hs2] at hc
  have ws1 : IntKind.i64.wrap (x + z1) = s1 := by rw [IntWalk.i64_in _ (by omega)]; exact hs1
  have ws2 : IntKind.i64.wrap (y + z2) = s2 := by rw [IntWalk.i64_in _ (by omega)]; exact hs2
  have d1 : decide (s1 < s2) = true := by simp; omega
  have L0 := Lib.hid (((live_start w).add h).add h')
  clear hl hl' hz1 hz2 hc hs1 hs2 b1 b2 h h'
  go_enter Tryd.func67, Tryd.ntmps67
  go_wp2_with fail
  obtain ⟨v1, hW⟩ : ∃ W : World, W = ((w.alloc (.cells #[.bool (decide (m < 0)), .slice A (digs m.natAbs).length c, .int .i64 x] 26)).alloc (.cells #[.bool (decide (n < 0)), .slice B (digs n.natAbs).length d, .int .i64 y] 26)) := ⟨_, rfl⟩
  rw [← hW]
  have hb : Below w.heap.size w v1 := by rw [hW]; exact (((Below.refl _ _).alloc (by simp <;> omega) _).alloc (by simp <;> omega) _)
  have L1 := Lib.hid (L0.out.step hb)
  have Rx_1 := Lib.hid (show v1.heap[w.heap.size]? = some (.cells #[.bool (decide (m < 0)), .slice A (digs m.natAbs).length c, .int .i64 x] 26 (0, 0)) by rw [hW]; have := heap_alloc_new w (.cells #[.bool (decide (m < 0)), .slice A (digs m.natAbs).length c, .int .i64 x] 26); rw [heap_alloc_old _ _ (by simp <;> omega)]; simpa using this)
  have Gx : w.heap.size ≤ w.heap.size := by have := L0.out.1.size; omega
  have Ry_1 := Lib.hid (show v1.heap[w.heap.size + 1]? = some (.cells #[.bool (decide (n < 0)), .slice B (digs n.natAbs).length d, .int .i64 y] 26 (0, 0)) by rw [hW]; have := heap_alloc_new (w.alloc (.cells #[.bool (decide (m < 0)), .slice A (digs m.natAbs).length c, .int .i64 x] 26)) (.cells #[.bool (decide (n < 0)), .slice B (digs n.natAbs).length d, .int .i64 y] 26); simpa using this)
  have Gy : w.heap.size ≤ w.heap.size + 1 := by have := L0.out.1.size; omega
  have Nxy : w.heap.size < w.heap.size + 1 := by omega
  clear hW hb
  have fx0 := row_c (i := 0) Rx_1.out rfl
  have zx0 := frozen_of_row _ _ 0 _ _ Rx_1.out
  have fx1 := row_c (i := 1) Rx_1.out rfl
  have zx1 := frozen_of_row _ _ 1 _ _ Rx_1.out
  have fx2 := row_c (i := 2) Rx_1.out rfl
  have zx2 := frozen_of_row _ _ 2 _ _ Rx_1.out
  have xx := heap_lt Rx_1.out
  have fy0 := row_c (i := 0) Ry_1.out rfl
  have zy0 := frozen_of_row _ _ 0 _ _ Ry_1.out
  have fy1 := row_c (i := 1) Ry_1.out rfl
  have zy1 := frozen_of_row _ _ 1 _ _ Ry_1.out
  have fy2 := row_c (i := 2) Ry_1.out rfl
  have zy2 := frozen_of_row _ _ 2 _ _ Ry_1.out
  have xy := heap_lt Ry_1.out
  have KD := Lib.hid (bd0 v1)
  have LD := Lib.hid (L1.out.step KD.out)
  go_region_held3 (fun w' => ∀ b o, b < v1.heap.size → w'.cell? ⟨b, o, none⟩ = v1.cell? ⟨b, o, none⟩)
    (first | with_reducible exact (bcell KD.out).1)
    (first
      | (go_at_call_of 64 A; (with_reducible refine (bits_b (LD.out.get (A := A) (c := c) (xs := digs m.natAbs) (by simp)) (Nat.le_trans lx.out (by omega)) HZ1.out).mono ?_); rintro e w3 ⟨rfl, rfl⟩)
      | (go_at_call_of 64 B; (with_reducible refine (bits_b (LD.out.get (A := B) (c := d) (xs := digs n.natAbs) (by simp)) (Nat.le_trans ly.out (by omega)) HZ2.out).mono ?_); rintro e w4 ⟨rfl, rfl⟩))
  rename_i hHeld
  clear hHeld
  clear fx0 zx0 fx1 zx1 fx2 zx2 xx fy0 zy0 fy1 zy1 fy2 zy2 xy
  clear KD LD
  obtain ⟨w5, hW⟩ : ∃ W : World, W = v1.drew := ⟨_, rfl⟩
  rw [← hW]
  have hb : Below v1.heap.size v1 w5 := by rw [hW]; exact bd0 _
  have L5 := Lib.hid (L1.out.step hb)
  have Rx_5 := Lib.hid (cells_of Rx_1.out hb)
  have Ry_5 := Lib.hid (cells_of Ry_1.out hb)
  clear hW hb
  clear ws1 ws2
  go_wp2
  go_ret
  exact ⟨rfl, L5.out.1⟩

set_option maxHeartbeats 4000000 in
set_option maxRecDepth 100000 in
theorem against_gt (A B : Option Addr) (c d : Nat) (m n x y : Int) (w : World) (h : Dg w A c (digs m.natAbs)) (h' : Dg w B d (digs n.natAbs)) (hl : (digs m.natAbs).length ≤ 400000) (hl' : (digs n.natAbs).length ≤ 400000) (x0 : -131072 ≤ x) (x1 : x ≤ 131072) (y0 : -131072 ≤ y) (y1 : y ≤ 131072) (hc : y + bl n < x + bl m):
    Calls Tryd.prog 67 #[.agg #[.bool (decide (m < 0)), .slice A (digs m.natAbs).length c, .int .i64 x], .agg #[.bool (decide (n < 0)), .slice B (digs n.natAbs).length d, .int .i64 y]] w fun e w' => e = .returned (.int .i64 1) ∧ Below w.heap.size w w' := by
  have b1 := bl_bd hl
  have b2 := bl_bd hl'
  unfold bl at hc
  obtain ⟨z1, hz1⟩ : ∃ z : Int, (blen m.natAbs : Int) = z := ⟨_, rfl⟩
  obtain ⟨z2, hz2⟩ : ∃ z : Int, (blen n.natAbs : Int) = z := ⟨_, rfl⟩
  rw [hz1, hz2] at hc
  have k1 : 0 ≤ z1 ∧ z1 ≤ 13000000 := by omega
  have k2 : 0 ≤ z2 ∧ z2 ≤ 13000000 := by omega
  obtain ⟨k10, k11⟩ := k1
  obtain ⟨k20, k21⟩ := k2
  have lx := Lib.hid hl
  have ly := Lib.hid hl'
  have HZ1 := Lib.hid hz1
  have HZ2 := Lib.hid hz2
  obtain ⟨s1, hs1⟩ : ∃ s : Int, x + z1 = s := ⟨_, rfl⟩
  obtain ⟨s2, hs2⟩ : ∃ s : Int, y + z2 = s := ⟨_, rfl⟩
  rw [hs1, hs2] at hc
  have ws1 : IntKind.i64.wrap (x + z1) = s1 := by rw [IntWalk.i64_in _ (by omega)]; exact hs1
  have ws2 : IntKind.i64.wrap (y + z2) = s2 := by rw [IntWalk.i64_in _ (by omega)]; exact hs2
  have d1 : decide (s1 < s2) = false := by simp; omega
  have d2 : decide (s2 < s1) = true := by simp; omega
  have L0 := Lib.hid (((live_start w).add h).add h')
  clear hl hl' hz1 hz2 hc hs1 hs2 b1 b2 h h'
  go_enter Tryd.func67, Tryd.ntmps67
  go_wp2_with fail
  obtain ⟨v1, hW⟩ : ∃ W : World, W = ((w.alloc (.cells #[.bool (decide (m < 0)), .slice A (digs m.natAbs).length c, .int .i64 x] 26)).alloc (.cells #[.bool (decide (n < 0)), .slice B (digs n.natAbs).length d, .int .i64 y] 26)) := ⟨_, rfl⟩
  rw [← hW]
  have hb : Below w.heap.size w v1 := by rw [hW]; exact (((Below.refl _ _).alloc (by simp <;> omega) _).alloc (by simp <;> omega) _)
  have L1 := Lib.hid (L0.out.step hb)
  have Rx_1 := Lib.hid (show v1.heap[w.heap.size]? = some (.cells #[.bool (decide (m < 0)), .slice A (digs m.natAbs).length c, .int .i64 x] 26 (0, 0)) by rw [hW]; have := heap_alloc_new w (.cells #[.bool (decide (m < 0)), .slice A (digs m.natAbs).length c, .int .i64 x] 26); rw [heap_alloc_old _ _ (by simp <;> omega)]; simpa using this)
  have Gx : w.heap.size ≤ w.heap.size := by have := L0.out.1.size; omega
  have Ry_1 := Lib.hid (show v1.heap[w.heap.size + 1]? = some (.cells #[.bool (decide (n < 0)), .slice B (digs n.natAbs).length d, .int .i64 y] 26 (0, 0)) by rw [hW]; have := heap_alloc_new (w.alloc (.cells #[.bool (decide (m < 0)), .slice A (digs m.natAbs).length c, .int .i64 x] 26)) (.cells #[.bool (decide (n < 0)), .slice B (digs n.natAbs).length d, .int .i64 y] 26); simpa using this)
  have Gy : w.heap.size ≤ w.heap.size + 1 := by have := L0.out.1.size; omega
  have Nxy : w.heap.size < w.heap.size + 1 := by omega
  clear hW hb
  have fx0 := row_c (i := 0) Rx_1.out rfl
  have zx0 := frozen_of_row _ _ 0 _ _ Rx_1.out
  have fx1 := row_c (i := 1) Rx_1.out rfl
  have zx1 := frozen_of_row _ _ 1 _ _ Rx_1.out
  have fx2 := row_c (i := 2) Rx_1.out rfl
  have zx2 := frozen_of_row _ _ 2 _ _ Rx_1.out
  have xx := heap_lt Rx_1.out
  have fy0 := row_c (i := 0) Ry_1.out rfl
  have zy0 := frozen_of_row _ _ 0 _ _ Ry_1.out
  have fy1 := row_c (i := 1) Ry_1.out rfl
  have zy1 := frozen_of_row _ _ 1 _ _ Ry_1.out
  have fy2 := row_c (i := 2) Ry_1.out rfl
  have zy2 := frozen_of_row _ _ 2 _ _ Ry_1.out
  have xy := heap_lt Ry_1.out
  have KD := Lib.hid (bd0 v1)
  have LD := Lib.hid (L1.out.step KD.out)
  go_region_held3 (fun w' => ∀ b o, b < v1.heap.size → w'.cell? ⟨b, o, none⟩ = v1.cell? ⟨b, o, none⟩)
    (first | with_reducible exact (bcell KD.out).1)
    (first
      | (go_at_call_of 64 A; (with_reducible refine (bits_b (LD.out.get (A := A) (c := c) (xs := digs m.natAbs) (by simp)) (Nat.le_trans lx.out (by omega)) HZ1.out).mono ?_); rintro e w3 ⟨rfl, rfl⟩)
      | (go_at_call_of 64 B; (with_reducible refine (bits_b (LD.out.get (A := B) (c := d) (xs := digs n.natAbs) (by simp)) (Nat.le_trans ly.out (by omega)) HZ2.out).mono ?_); rintro e w4 ⟨rfl, rfl⟩))
  rename_i hHeld
  clear hHeld
  clear fx0 zx0 fx1 zx1 fx2 zx2 xx fy0 zy0 fy1 zy1 fy2 zy2 xy
  clear KD LD
  obtain ⟨w5, hW⟩ : ∃ W : World, W = v1.drew := ⟨_, rfl⟩
  rw [← hW]
  have hb : Below v1.heap.size v1 w5 := by rw [hW]; exact bd0 _
  have L5 := Lib.hid (L1.out.step hb)
  have Rx_5 := Lib.hid (cells_of Rx_1.out hb)
  have Ry_5 := Lib.hid (cells_of Ry_1.out hb)
  clear hW hb
  clear ws1 ws2
  go_wp2
  go_ret
  exact ⟨rfl, L5.out.1⟩

set_option maxHeartbeats 4000000 in
set_option maxRecDepth 100000 in
theorem against_eq (A B : Option Addr) (c d : Nat) (m n x y : Int) (w : World) (h : Dg w A c (digs m.natAbs)) (h' : Dg w B d (digs n.natAbs)) (hl : (digs m.natAbs).length ≤ 400000) (hl' : (digs n.natAbs).length ≤ 400000) (x0 : -131072 ≤ x) (x1 : x ≤ 131072) (y0 : -131072 ≤ y) (y1 : y ≤ 131072) (hc : x + bl m = y + bl n) {k : Int} (hk : cmpi (upto m x (min x y)).natAbs (upto n y (min x y)).natAbs = k):
    Calls Tryd.prog 67 #[.agg #[.bool (decide (m < 0)), .slice A (digs m.natAbs).length c, .int .i64 x], .agg #[.bool (decide (n < 0)), .slice B (digs n.natAbs).length d, .int .i64 y]] w fun e w' => e = .returned (.int .i64 k) ∧ Below w.heap.size w w' := by
  have b1 := bl_bd hl
  have b2 := bl_bd hl'
  unfold bl at hc
  obtain ⟨z1, hz1⟩ : ∃ z : Int, (blen m.natAbs : Int) = z := ⟨_, rfl⟩
  obtain ⟨z2, hz2⟩ : ∃ z : Int, (blen n.natAbs : Int) = z := ⟨_, rfl⟩
  rw [hz1, hz2] at hc
  have k1 : 0 ≤ z1 ∧ z1 ≤ 13000000 := by omega
  have k2 : 0 ≤ z2 ∧ z2 ≤ 13000000 := by omega
  obtain ⟨k10, k11⟩ := k1
  obtain ⟨k20, k21⟩ := k2
  have lx := Lib.hid hl
  have ly := Lib.hid hl'
  have HZ1 := Lib.hid hz1
  have HZ2 := Lib.hid hz2
  obtain ⟨s1, hs1⟩ : ∃ s : Int, x + z1 = s := ⟨_, rfl⟩
  obtain ⟨s2, hs2⟩ : ∃ s : Int, y + z2 = s := ⟨_, rfl⟩
  rw [hs1, hs2] at hc
  have ws1 : IntKind.i64.wrap (x + z1) = s1 := by rw [IntWalk.i64_in _ (by omega)]; exact hs1
  have ws2 : IntKind.i64.wrap (y + z2) = s2 := by rw [IntWalk.i64_in _ (by omega)]; exact hs2
  have d1 : decide (s1 < s2) = false := by simp; omega
  have d2 : decide (s2 < s1) = false := by simp; omega
  obtain ⟨e0, he0⟩ : ∃ e, min x y = e := ⟨_, rfl⟩
  rw [he0] at hk
  obtain ⟨p, hp⟩ : ∃ e, upto m x e0 = e := ⟨_, rfl⟩
  obtain ⟨q, hq⟩ : ∃ e, upto n y e0 = e := ⟨_, rfl⟩
  rw [hp, hq] at hk
  have HK := Lib.hid hk
  have HP := Lib.hid hp
  have HQ := Lib.hid hq
  have HE := Lib.hid he0
  have lp := Lib.hid (show (digs p.natAbs).length ≤ 1000000 by rw [← hp]; exact upto_len hl (by omega))
  have lq := Lib.hid (show (digs q.natAbs).length ≤ 1000000 by rw [← hq]; exact upto_len hl' (by omega))
  have L0 := Lib.hid (((live_start w).add h).add h')
  clear hl hl' hz1 hz2 hc hs1 hs2 b1 b2 h h' hk hp hq he0
  go_enter Tryd.func67, Tryd.ntmps67
  go_wp2_with fail
  obtain ⟨v1, hW⟩ : ∃ W : World, W = ((w.alloc (.cells #[.bool (decide (m < 0)), .slice A (digs m.natAbs).length c, .int .i64 x] 26)).alloc (.cells #[.bool (decide (n < 0)), .slice B (digs n.natAbs).length d, .int .i64 y] 26)) := ⟨_, rfl⟩
  rw [← hW]
  have hb : Below w.heap.size w v1 := by rw [hW]; exact (((Below.refl _ _).alloc (by simp <;> omega) _).alloc (by simp <;> omega) _)
  have L1 := Lib.hid (L0.out.step hb)
  have Rx_1 := Lib.hid (show v1.heap[w.heap.size]? = some (.cells #[.bool (decide (m < 0)), .slice A (digs m.natAbs).length c, .int .i64 x] 26 (0, 0)) by rw [hW]; have := heap_alloc_new w (.cells #[.bool (decide (m < 0)), .slice A (digs m.natAbs).length c, .int .i64 x] 26); rw [heap_alloc_old _ _ (by simp <;> omega)]; simpa using this)
  have Gx : w.heap.size ≤ w.heap.size := by have := L0.out.1.size; omega
  have Ry_1 := Lib.hid (show v1.heap[w.heap.size + 1]? = some (.cells #[.bool (decide (n < 0)), .slice B (digs n.natAbs).length d, .int .i64 y] 26 (0, 0)) by rw [hW]; have := heap_alloc_new (w.alloc (.cells #[.bool (decide (m < 0)), .slice A (digs m.natAbs).length c, .int .i64 x] 26)) (.cells #[.bool (decide (n < 0)), .slice B (digs n.natAbs).length d, .int .i64 y] 26); simpa using this)
  have Gy : w.heap.size ≤ w.heap.size + 1 := by have := L0.out.1.size; omega
  have Nxy : w.heap.size < w.heap.size + 1 := by omega
  clear hW hb
  have fx0 := row_c (i := 0) Rx_1.out rfl
  have zx0 := frozen_of_row _ _ 0 _ _ Rx_1.out
  have fx1 := row_c (i := 1) Rx_1.out rfl
  have zx1 := frozen_of_row _ _ 1 _ _ Rx_1.out
  have fx2 := row_c (i := 2) Rx_1.out rfl
  have zx2 := frozen_of_row _ _ 2 _ _ Rx_1.out
  have xx := heap_lt Rx_1.out
  have fy0 := row_c (i := 0) Ry_1.out rfl
  have zy0 := frozen_of_row _ _ 0 _ _ Ry_1.out
  have fy1 := row_c (i := 1) Ry_1.out rfl
  have zy1 := frozen_of_row _ _ 1 _ _ Ry_1.out
  have fy2 := row_c (i := 2) Ry_1.out rfl
  have zy2 := frozen_of_row _ _ 2 _ _ Ry_1.out
  have xy := heap_lt Ry_1.out
  have KD := Lib.hid (bd0 v1)
  have LD := Lib.hid (L1.out.step KD.out)
  go_region_held3 (fun w' => ∀ b o, b < v1.heap.size → w'.cell? ⟨b, o, none⟩ = v1.cell? ⟨b, o, none⟩)
    (first | with_reducible exact (bcell KD.out).1)
    (first
      | (go_at_call_of 64 A; (with_reducible refine (bits_b (LD.out.get (A := A) (c := c) (xs := digs m.natAbs) (by simp)) (Nat.le_trans lx.out (by omega)) HZ1.out).mono ?_); rintro e w3 ⟨rfl, rfl⟩)
      | (go_at_call_of 64 B; (with_reducible refine (bits_b (LD.out.get (A := B) (c := d) (xs := digs n.natAbs) (by simp)) (Nat.le_trans ly.out (by omega)) HZ2.out).mono ?_); rintro e w4 ⟨rfl, rfl⟩))
  rename_i hHeld
  clear hHeld
  clear fx0 zx0 fx1 zx1 fx2 zx2 xx fy0 zy0 fy1 zy1 fy2 zy2 xy
  clear KD LD
  obtain ⟨w5, hW⟩ : ∃ W : World, W = v1.drew := ⟨_, rfl⟩
  rw [← hW]
  have hb : Below v1.heap.size v1 w5 := by rw [hW]; exact bd0 _
  have L5 := Lib.hid (L1.out.step hb)
  have Rx_5 := Lib.hid (cells_of Rx_1.out hb)
  have Ry_5 := Lib.hid (cells_of Ry_1.out hb)
  clear hW hb
  clear ws1 ws2
  have fx0 := row_c (i := 0) Rx_5.out rfl
  have zx0 := frozen_of_row _ _ 0 _ _ Rx_5.out
  have fx1 := row_c (i := 1) Rx_5.out rfl
  have zx1 := frozen_of_row _ _ 1 _ _ Rx_5.out
  have fx2 := row_c (i := 2) Rx_5.out rfl
  have zx2 := frozen_of_row _ _ 2 _ _ Rx_5.out
  have xx := heap_lt Rx_5.out
  have fy0 := row_c (i := 0) Ry_5.out rfl
  have zy0 := frozen_of_row _ _ 0 _ _ Ry_5.out
  have fy1 := row_c (i := 1) Ry_5.out rfl
  have zy1 := frozen_of_row _ _ 1 _ _ Ry_5.out
  have fy2 := row_c (i := 2) Ry_5.out rfl
  have zy2 := frozen_of_row _ _ 2 _ _ Ry_5.out
  have xy := heap_lt Ry_5.out
  go_wp2_with fail
  refine (beside_any (p := p) (q := q) (e0 := e0) (L5.out.get (A := A) (c := c) (xs := digs m.natAbs) (by simp)) (L5.out.get (A := B) (c := d) (xs := digs n.natAbs) (by simp)) lx.out ly.out x0 x1 y0 y1 HE.out HP.out HQ.out).mono ?_
  rintro e w6 ⟨A6, c6, B6, d6, rfl, hd, hd', hb⟩
  have L6 := Lib.hid (((L5.out.step hb).add hd).add hd')
  clear fx0 zx0 fx1 zx1 fx2 zx2 xx fy0 zy0 fy1 zy1 fy2 zy2 xy
  have Rx_6 := Lib.hid (cells_of Rx_5.out hb)
  have Ry_6 := Lib.hid (cells_of Ry_5.out hb)
  clear hb hd hd'
  go_wp2_with fail
  obtain ⟨w7, hW⟩ : ∃ W : World, W = ((w6.alloc (.cells #[.bool (decide (p < 0)), .slice A6 (digs p.natAbs).length c6] 24)).alloc (.cells #[.bool (decide (q < 0)), .slice B6 (digs q.natAbs).length d6] 24)) := ⟨_, rfl⟩
  rw [← hW]
  have hb : Below w6.heap.size w6 w7 := by rw [hW]; exact (((Below.refl _ _).alloc (by simp <;> omega) _).alloc (by simp <;> omega) _)
  have L7 := Lib.hid (L6.out.step hb)
  have Rx_7 := Lib.hid (cells_of Rx_6.out hb)
  have Ry_7 := Lib.hid (cells_of Ry_6.out hb)
  have Ra_7 := Lib.hid (show w7.heap[w6.heap.size]? = some (.cells #[.bool (decide (p < 0)), .slice A6 (digs p.natAbs).length c6] 24 (0, 0)) by rw [hW]; have := heap_alloc_new w6 (.cells #[.bool (decide (p < 0)), .slice A6 (digs p.natAbs).length c6] 24); rw [heap_alloc_old _ _ (by simp <;> omega)]; simpa using this)
  have Ga : w.heap.size ≤ w6.heap.size := by have := L6.out.1.size; omega
  have Nxa : w.heap.size < w6.heap.size := by have := heap_lt Rx_6.out; omega
  have Nya : w.heap.size + 1 < w6.heap.size := by have := heap_lt Ry_6.out; omega
  have Rb_7 := Lib.hid (show w7.heap[w6.heap.size + 1]? = some (.cells #[.bool (decide (q < 0)), .slice B6 (digs q.natAbs).length d6] 24 (0, 0)) by rw [hW]; have := heap_alloc_new (w6.alloc (.cells #[.bool (decide (p < 0)), .slice A6 (digs p.natAbs).length c6] 24)) (.cells #[.bool (decide (q < 0)), .slice B6 (digs q.natAbs).length d6] 24); simpa using this)
  have Gb : w.heap.size ≤ w6.heap.size + 1 := by have := L6.out.1.size; omega
  have Nxb : w.heap.size < w6.heap.size + 1 := by have := heap_lt Rx_6.out; omega
  have Nyb : w.heap.size + 1 < w6.heap.size + 1 := by have := heap_lt Ry_6.out; omega
  have Nab : w6.heap.size < w6.heap.size + 1 := by omega
  clear hW hb
  refine (cmp_b (L7.out.get (A := A6) (c := c6) (xs := digs p.natAbs) (by simp)) (L7.out.get (A := B6) (c := d6) (xs := digs q.natAbs) (by simp)) lp.out lq.out HK.out).mono ?_
  rintro e w8 ⟨rfl, hb⟩
  have L8 := Lib.hid (L7.out.step hb)
  have Rx_8 := Lib.hid (cells_of Rx_7.out hb)
  have Ry_8 := Lib.hid (cells_of Ry_7.out hb)
  have Ra_8 := Lib.hid (cells_of Ra_7.out hb)
  have Rb_8 := Lib.hid (cells_of Rb_7.out hb)
  clear hb 
  go_wp2
  go_ret
  exact ⟨rfl, L8.out.1⟩

theorem dagainst_any {A B : Option Addr} {c d : Nat} {m n x y k : Int} {w : World} (h : Dg w A c (digs m.natAbs)) (h' : Dg w B d (digs n.natAbs)) (hl : (digs m.natAbs).length ≤ 400000) (hl' : (digs n.natAbs).length ≤ 400000) (x0 : -131072 ≤ x) (x1 : x ≤ 131072) (y0 : -131072 ≤ y) (y1 : y ≤ 131072) (hk : agq m x n y = k) :
    Calls Tryd.prog 67 #[.agg #[.bool (decide (m < 0)), .slice A (digs m.natAbs).length c, .int .i64 x], .agg #[.bool (decide (n < 0)), .slice B (digs n.natAbs).length d, .int .i64 y]] w fun e w' => e = .returned (.int .i64 k) ∧ Below w.heap.size w w' := by
  unfold agq at hk
  by_cases h1 : x + bl m < y + bl n
  · rw [if_pos h1] at hk; subst hk; exact against_lt A B c d m n x y w h h' hl hl' x0 x1 y0 y1 h1
  · rw [if_neg h1] at hk
    by_cases h2 : y + bl n < x + bl m
    · rw [if_pos h2] at hk; subst hk; exact against_gt A B c d m n x y w h h' hl hl' x0 x1 y0 y1 h2
    · rw [if_neg h2] at hk; exact against_eq A B c d m n x y w h h' hl hl' x0 x1 y0 y1 (by omega) hk
theorem sign_dz {A : Option Addr} {c : Nat} {m x q : Int} {w : World} (hq : Int.sign m = q) :
    Calls Tryd.prog 66 #[.agg #[.bool (decide (m < 0)), .slice A (digs m.natAbs).length c, .int .i64 x]] w fun e w' => e = .returned (.int .i64 q) ∧ Below w.heap.size w w' := by
  have h3 := sign_three m
  refine sign_d A _ c _ x q w (fun h => ?_) (fun h => ?_)
  · have := digs_nil.1 h; omega
  · have : m.natAbs ≠ 0 := fun e => h (digs_nil.2 e)
    by_cases hm : m < 0
    · rw [if_pos (by simpa using hm)]; omega
    · rw [if_neg (by simpa using hm)]; omega

set_option maxHeartbeats 4000000 in
set_option maxRecDepth 100000 in
theorem cmp_lt_ (A B : Option Addr) (c d : Nat) (m n x y : Int) (w : World) (h : Dg w A c (digs m.natAbs)) (h' : Dg w B d (digs n.natAbs)) (hl : (digs m.natAbs).length ≤ 400000) (hl' : (digs n.natAbs).length ≤ 400000) (r1 : Rt m x) (r2 : Rt n y) {q : Int} (hq : cmpd (dv m x) (dv n y) = q) (hc : Int.sign m < Int.sign n):
    Calls Tryd.prog 28 #[.agg #[.bool (decide (m < 0)), .slice A (digs m.natAbs).length c, .int .i64 x], .agg #[.bool (decide (n < 0)), .slice B (digs n.natAbs).length d, .int .i64 y]] w fun e w' => e = .returned (.int .i64 q) ∧ Below w.heap.size w w' := by
  have x0 := r1.2.1
  have x1 := r1.2.2
  have y0 := r2.2.1
  have y1 := r2.2.2
  have DX := Lib.hid (fun W hW => dright_any A c (decide (m < 0)) (digs m.natAbs) x W hW true (dyR_num r1) (by omega))
  have DY := Lib.hid (fun W hW => dright_any B d (decide (n < 0)) (digs n.natAbs) y W hW true (dyR_num r2) (by omega))
  have lx := Lib.hid hl
  have ly := Lib.hid hl'
  obtain rfl : q = -1 := by rw [← hq]; exact cmp_less hc
  have b1 := sign_bd m
  have b2 := sign_bd n
  obtain ⟨s1, hs1⟩ : ∃ s, Int.sign m = s := ⟨_, rfl⟩
  obtain ⟨s2, hs2⟩ : ∃ s, Int.sign n = s := ⟨_, rfl⟩
  rw [hs1, hs2] at hc
  rw [hs1] at b1
  rw [hs2] at b2
  obtain ⟨b10, b11⟩ := b1
  obtain ⟨b20, b21⟩ := b2
  have S1 := Lib.hid hs1
  have S2 := Lib.hid hs2
  have d1 : (s1 != s2) = true := by simp; omega
  have d1' : (s1 == s2) = false := by simp; omega
  have d2 : decide (s1 < s2) = true := by simp; omega
  have L0 := Lib.hid (((live_start w).add h).add h')
  clear hl hl' hc hs1 hs2 h h' r1 r2 hq
  go_enter Tryd.func28, Tryd.ntmps28
  go_wp2_with fail
  obtain ⟨v1, hW⟩ : ∃ W : World, W = ((w.alloc (.cells #[.bool (decide (m < 0)), .slice A (digs m.natAbs).length c, .int .i64 x] 26)).alloc (.cells #[.bool (decide (n < 0)), .slice B (digs n.natAbs).length d, .int .i64 y] 26)) := ⟨_, rfl⟩
  rw [← hW]
  have hb : Below w.heap.size w v1 := by rw [hW]; exact (((Below.refl _ _).alloc (by simp <;> omega) _).alloc (by simp <;> omega) _)
  have L1 := Lib.hid (L0.out.step hb)
  have Rx_1 := Lib.hid (show v1.heap[w.heap.size]? = some (.cells #[.bool (decide (m < 0)), .slice A (digs m.natAbs).length c, .int .i64 x] 26 (0, 0)) by rw [hW]; have := heap_alloc_new w (.cells #[.bool (decide (m < 0)), .slice A (digs m.natAbs).length c, .int .i64 x] 26); rw [heap_alloc_old _ _ (by simp <;> omega)]; simpa using this)
  have Gx : w.heap.size ≤ w.heap.size := by have := L0.out.1.size; omega
  have Ry_1 := Lib.hid (show v1.heap[w.heap.size + 1]? = some (.cells #[.bool (decide (n < 0)), .slice B (digs n.natAbs).length d, .int .i64 y] 26 (0, 0)) by rw [hW]; have := heap_alloc_new (w.alloc (.cells #[.bool (decide (m < 0)), .slice A (digs m.natAbs).length c, .int .i64 x] 26)) (.cells #[.bool (decide (n < 0)), .slice B (digs n.natAbs).length d, .int .i64 y] 26); simpa using this)
  have Gy : w.heap.size ≤ w.heap.size + 1 := by have := L0.out.1.size; omega
  have Nxy : w.heap.size < w.heap.size + 1 := by omega
  clear hW hb
  refine (DX.out _ (L1.out.get (A := A) (c := c) (xs := digs m.natAbs) (by simp))).mono ?_
  rintro e w2 ⟨rfl, hb⟩
  have L2 := Lib.hid (L1.out.step hb)
  have Rx_2 := Lib.hid (cells_of Rx_1.out hb)
  have Ry_2 := Lib.hid (cells_of Ry_1.out hb)
  clear hb 
  have fx0 := row_c (i := 0) Rx_2.out rfl
  have zx0 := frozen_of_row _ _ 0 _ _ Rx_2.out
  have fx1 := row_c (i := 1) Rx_2.out rfl
  have zx1 := frozen_of_row _ _ 1 _ _ Rx_2.out
  have fx2 := row_c (i := 2) Rx_2.out rfl
  have zx2 := frozen_of_row _ _ 2 _ _ Rx_2.out
  have xx := heap_lt Rx_2.out
  have fy0 := row_c (i := 0) Ry_2.out rfl
  have zy0 := frozen_of_row _ _ 0 _ _ Ry_2.out
  have fy1 := row_c (i := 1) Ry_2.out rfl
  have zy1 := frozen_of_row _ _ 1 _ _ Ry_2.out
  have fy2 := row_c (i := 2) Ry_2.out rfl
  have zy2 := frozen_of_row _ _ 2 _ _ Ry_2.out
  have xy := heap_lt Ry_2.out
  go_wp2_with fail
  refine (DY.out _ (L2.out.get (A := B) (c := d) (xs := digs n.natAbs) (by simp))).mono ?_
  rintro e w3 ⟨rfl, hb⟩
  have L3 := Lib.hid (L2.out.step hb)
  clear fx0 zx0 fx1 zx1 fx2 zx2 xx fy0 zy0 fy1 zy1 fy2 zy2 xy
  have Rx_3 := Lib.hid (cells_of Rx_2.out hb)
  have Ry_3 := Lib.hid (cells_of Ry_2.out hb)
  clear hb 
  have fx0 := row_c (i := 0) Rx_3.out rfl
  have zx0 := frozen_of_row _ _ 0 _ _ Rx_3.out
  have fx1 := row_c (i := 1) Rx_3.out rfl
  have zx1 := frozen_of_row _ _ 1 _ _ Rx_3.out
  have fx2 := row_c (i := 2) Rx_3.out rfl
  have zx2 := frozen_of_row _ _ 2 _ _ Rx_3.out
  have xx := heap_lt Rx_3.out
  have fy0 := row_c (i := 0) Ry_3.out rfl
  have zy0 := frozen_of_row _ _ 0 _ _ Ry_3.out
  have fy1 := row_c (i := 1) Ry_3.out rfl
  have zy1 := frozen_of_row _ _ 1 _ _ Ry_3.out
  have fy2 := row_c (i := 2) Ry_3.out rfl
  have zy2 := frozen_of_row _ _ 2 _ _ Ry_3.out
  have xy := heap_lt Ry_3.out
  go_wp2_with fail
  refine (sign_dz (x := x) S1.out).mono ?_
  rintro e w4 ⟨rfl, hb⟩
  have L4 := Lib.hid (L3.out.step hb)
  clear fx0 zx0 fx1 zx1 fx2 zx2 xx fy0 zy0 fy1 zy1 fy2 zy2 xy
  have Rx_4 := Lib.hid (cells_of Rx_3.out hb)
  have Ry_4 := Lib.hid (cells_of Ry_3.out hb)
  clear hb 
  have fx0 := row_c (i := 0) Rx_4.out rfl
  have zx0 := frozen_of_row _ _ 0 _ _ Rx_4.out
  have fx1 := row_c (i := 1) Rx_4.out rfl
  have zx1 := frozen_of_row _ _ 1 _ _ Rx_4.out
  have fx2 := row_c (i := 2) Rx_4.out rfl
  have zx2 := frozen_of_row _ _ 2 _ _ Rx_4.out
  have xx := heap_lt Rx_4.out
  have fy0 := row_c (i := 0) Ry_4.out rfl
  have zy0 := frozen_of_row _ _ 0 _ _ Ry_4.out
  have fy1 := row_c (i := 1) Ry_4.out rfl
  have zy1 := frozen_of_row _ _ 1 _ _ Ry_4.out
  have fy2 := row_c (i := 2) Ry_4.out rfl
  have zy2 := frozen_of_row _ _ 2 _ _ Ry_4.out
  have xy := heap_lt Ry_4.out
  go_wp2_with fail
  refine (sign_dz (x := y) S2.out).mono ?_
  rintro e w5 ⟨rfl, hb⟩
  have L5 := Lib.hid (L4.out.step hb)
  clear fx0 zx0 fx1 zx1 fx2 zx2 xx fy0 zy0 fy1 zy1 fy2 zy2 xy
  have Rx_5 := Lib.hid (cells_of Rx_4.out hb)
  have Ry_5 := Lib.hid (cells_of Ry_4.out hb)
  clear hb 
  have fx0 := row_c (i := 0) Rx_5.out rfl
  have zx0 := frozen_of_row _ _ 0 _ _ Rx_5.out
  have fx1 := row_c (i := 1) Rx_5.out rfl
  have zx1 := frozen_of_row _ _ 1 _ _ Rx_5.out
  have fx2 := row_c (i := 2) Rx_5.out rfl
  have zx2 := frozen_of_row _ _ 2 _ _ Rx_5.out
  have xx := heap_lt Rx_5.out
  have fy0 := row_c (i := 0) Ry_5.out rfl
  have zy0 := frozen_of_row _ _ 0 _ _ Ry_5.out
  have fy1 := row_c (i := 1) Ry_5.out rfl
  have zy1 := frozen_of_row _ _ 1 _ _ Ry_5.out
  have fy2 := row_c (i := 2) Ry_5.out rfl
  have zy2 := frozen_of_row _ _ 2 _ _ Ry_5.out
  have xy := heap_lt Ry_5.out
  go_wp2_with fail
  refine (sign_dz (x := y) S2.out).mono ?_
  rintro e w6 ⟨rfl, hb⟩
  have L6 := Lib.hid (L5.out.step hb)
  clear fx0 zx0 fx1 zx1 fx2 zx2 xx fy0 zy0 fy1 zy1 fy2 zy2 xy
  have Rx_6 := Lib.hid (cells_of Rx_5.out hb)
  have Ry_6 := Lib.hid (cells_of Ry_5.out hb)
  clear hb 
  go_wp2
  go_ret
  exact ⟨rfl, L6.out.1⟩

set_option maxHeartbeats 4000000 in
set_option maxRecDepth 100000 in
theorem cmp_eq_ (A B : Option Addr) (c d : Nat) (m n x y : Int) (w : World) (h : Dg w A c (digs m.natAbs)) (h' : Dg w B d (digs n.natAbs)) (hl : (digs m.natAbs).length ≤ 400000) (hl' : (digs n.natAbs).length ≤ 400000) (r1 : Rt m x) (r2 : Rt n y) {q : Int} (hq : cmpd (dv m x) (dv n y) = q) (hc : Int.sign m = Int.sign n):
    Calls Tryd.prog 28 #[.agg #[.bool (decide (m < 0)), .slice A (digs m.natAbs).length c, .int .i64 x], .agg #[.bool (decide (n < 0)), .slice B (digs n.natAbs).length d, .int .i64 y]] w fun e w' => e = .returned (.int .i64 q) ∧ Below w.heap.size w w' := by
  have x0 := r1.2.1
  have x1 := r1.2.2
  have y0 := r2.2.1
  have y1 := r2.2.2
  have DX := Lib.hid (fun W hW => dright_any A c (decide (m < 0)) (digs m.natAbs) x W hW true (dyR_num r1) (by omega))
  have DY := Lib.hid (fun W hW => dright_any B d (decide (n < 0)) (digs n.natAbs) y W hW true (dyR_num r2) (by omega))
  have lx := Lib.hid hl
  have ly := Lib.hid hl'
  have HQ := Lib.hid (show Int.sign m * agq m x n y = q by rw [← hq]; exact cmp_same hc r1.1 r2.1)
  have b1 := sign_bd m
  have b2 := sign_bd n
  obtain ⟨s1, hs1⟩ : ∃ s, Int.sign m = s := ⟨_, rfl⟩
  obtain ⟨s2, hs2⟩ : ∃ s, Int.sign n = s := ⟨_, rfl⟩
  rw [hs1, hs2] at hc
  rw [hs1] at b1
  rw [hs2] at b2
  obtain ⟨b10, b11⟩ := b1
  obtain ⟨b20, b21⟩ := b2
  have S1 := Lib.hid hs1
  have S2 := Lib.hid hs2
  have d1 : (s1 != s2) = false := by simp; omega
  have d1' : (s1 == s2) = true := by simp; omega
  rw [hs1] at HQ
  have a1 := agq_bd m x n y
  obtain ⟨k, hk⟩ : ∃ k, agq m x n y = k := ⟨_, rfl⟩
  rw [hk] at a1 HQ
  obtain ⟨a10, a11⟩ := a1
  have HK := Lib.hid hk
  have w1 : -1 ≤ s1 * k ∧ s1 * k ≤ 1 := by
    have : s1 = -1 ∨ s1 = 0 ∨ s1 = 1 := by omega
    rcases this with e | e | e <;> rw [e] <;> omega
  obtain ⟨w10, w11⟩ := w1
  have L0 := Lib.hid (((live_start w).add h).add h')
  clear hl hl' hc hs1 hs2 h h' r1 r2 hq hk
  go_enter Tryd.func28, Tryd.ntmps28
  go_wp2_with fail
  obtain ⟨v1, hW⟩ : ∃ W : World, W = ((w.alloc (.cells #[.bool (decide (m < 0)), .slice A (digs m.natAbs).length c, .int .i64 x] 26)).alloc (.cells #[.bool (decide (n < 0)), .slice B (digs n.natAbs).length d, .int .i64 y] 26)) := ⟨_, rfl⟩
  rw [← hW]
  have hb : Below w.heap.size w v1 := by rw [hW]; exact (((Below.refl _ _).alloc (by simp <;> omega) _).alloc (by simp <;> omega) _)
  have L1 := Lib.hid (L0.out.step hb)
  have Rx_1 := Lib.hid (show v1.heap[w.heap.size]? = some (.cells #[.bool (decide (m < 0)), .slice A (digs m.natAbs).length c, .int .i64 x] 26 (0, 0)) by rw [hW]; have := heap_alloc_new w (.cells #[.bool (decide (m < 0)), .slice A (digs m.natAbs).length c, .int .i64 x] 26); rw [heap_alloc_old _ _ (by simp <;> omega)]; simpa using this)
  have Gx : w.heap.size ≤ w.heap.size := by have := L0.out.1.size; omega
  have Ry_1 := Lib.hid (show v1.heap[w.heap.size + 1]? = some (.cells #[.bool (decide (n < 0)), .slice B (digs n.natAbs).length d, .int .i64 y] 26 (0, 0)) by rw [hW]; have := heap_alloc_new (w.alloc (.cells #[.bool (decide (m < 0)), .slice A (digs m.natAbs).length c, .int .i64 x] 26)) (.cells #[.bool (decide (n < 0)), .slice B (digs n.natAbs).length d, .int .i64 y] 26); simpa using this)
  have Gy : w.heap.size ≤ w.heap.size + 1 := by have := L0.out.1.size; omega
  have Nxy : w.heap.size < w.heap.size + 1 := by omega
  clear hW hb
  refine (DX.out _ (L1.out.get (A := A) (c := c) (xs := digs m.natAbs) (by simp))).mono ?_
  rintro e w2 ⟨rfl, hb⟩
  have L2 := Lib.hid (L1.out.step hb)
  have Rx_2 := Lib.hid (cells_of Rx_1.out hb)
  have Ry_2 := Lib.hid (cells_of Ry_1.out hb)
  clear hb 
  have fx0 := row_c (i := 0) Rx_2.out rfl
  have zx0 := frozen_of_row _ _ 0 _ _ Rx_2.out
  have fx1 := row_c (i := 1) Rx_2.out rfl
  have zx1 := frozen_of_row _ _ 1 _ _ Rx_2.out
  have fx2 := row_c (i := 2) Rx_2.out rfl
  have zx2 := frozen_of_row _ _ 2 _ _ Rx_2.out
  have xx := heap_lt Rx_2.out
  have fy0 := row_c (i := 0) Ry_2.out rfl
  have zy0 := frozen_of_row _ _ 0 _ _ Ry_2.out
  have fy1 := row_c (i := 1) Ry_2.out rfl
  have zy1 := frozen_of_row _ _ 1 _ _ Ry_2.out
  have fy2 := row_c (i := 2) Ry_2.out rfl
  have zy2 := frozen_of_row _ _ 2 _ _ Ry_2.out
  have xy := heap_lt Ry_2.out
  go_wp2_with fail
  refine (DY.out _ (L2.out.get (A := B) (c := d) (xs := digs n.natAbs) (by simp))).mono ?_
  rintro e w3 ⟨rfl, hb⟩
  have L3 := Lib.hid (L2.out.step hb)
  clear fx0 zx0 fx1 zx1 fx2 zx2 xx fy0 zy0 fy1 zy1 fy2 zy2 xy
  have Rx_3 := Lib.hid (cells_of Rx_2.out hb)
  have Ry_3 := Lib.hid (cells_of Ry_2.out hb)
  clear hb 
  have fx0 := row_c (i := 0) Rx_3.out rfl
  have zx0 := frozen_of_row _ _ 0 _ _ Rx_3.out
  have fx1 := row_c (i := 1) Rx_3.out rfl
  have zx1 := frozen_of_row _ _ 1 _ _ Rx_3.out
  have fx2 := row_c (i := 2) Rx_3.out rfl
  have zx2 := frozen_of_row _ _ 2 _ _ Rx_3.out
  have xx := heap_lt Rx_3.out
  have fy0 := row_c (i := 0) Ry_3.out rfl
  have zy0 := frozen_of_row _ _ 0 _ _ Ry_3.out
  have fy1 := row_c (i := 1) Ry_3.out rfl
  have zy1 := frozen_of_row _ _ 1 _ _ Ry_3.out
  have fy2 := row_c (i := 2) Ry_3.out rfl
  have zy2 := frozen_of_row _ _ 2 _ _ Ry_3.out
  have xy := heap_lt Ry_3.out
  go_wp2_with fail
  refine (sign_dz (x := x) S1.out).mono ?_
  rintro e w4 ⟨rfl, hb⟩
  have L4 := Lib.hid (L3.out.step hb)
  clear fx0 zx0 fx1 zx1 fx2 zx2 xx fy0 zy0 fy1 zy1 fy2 zy2 xy
  have Rx_4 := Lib.hid (cells_of Rx_3.out hb)
  have Ry_4 := Lib.hid (cells_of Ry_3.out hb)
  clear hb 
  have fx0 := row_c (i := 0) Rx_4.out rfl
  have zx0 := frozen_of_row _ _ 0 _ _ Rx_4.out
  have fx1 := row_c (i := 1) Rx_4.out rfl
  have zx1 := frozen_of_row _ _ 1 _ _ Rx_4.out
  have fx2 := row_c (i := 2) Rx_4.out rfl
  have zx2 := frozen_of_row _ _ 2 _ _ Rx_4.out
  have xx := heap_lt Rx_4.out
  have fy0 := row_c (i := 0) Ry_4.out rfl
  have zy0 := frozen_of_row _ _ 0 _ _ Ry_4.out
  have fy1 := row_c (i := 1) Ry_4.out rfl
  have zy1 := frozen_of_row _ _ 1 _ _ Ry_4.out
  have fy2 := row_c (i := 2) Ry_4.out rfl
  have zy2 := frozen_of_row _ _ 2 _ _ Ry_4.out
  have xy := heap_lt Ry_4.out
  go_wp2_with fail
  refine (sign_dz (x := y) S2.out).mono ?_
  rintro e w5 ⟨rfl, hb⟩
  have L5 := Lib.hid (L4.out.step hb)
  clear fx0 zx0 fx1 zx1 fx2 zx2 xx fy0 zy0 fy1 zy1 fy2 zy2 xy
  have Rx_5 := Lib.hid (cells_of Rx_4.out hb)
  have Ry_5 := Lib.hid (cells_of Ry_4.out hb)
  clear hb 
  have fx0 := row_c (i := 0) Rx_5.out rfl
  have zx0 := frozen_of_row _ _ 0 _ _ Rx_5.out
  have fx1 := row_c (i := 1) Rx_5.out rfl
  have zx1 := frozen_of_row _ _ 1 _ _ Rx_5.out
  have fx2 := row_c (i := 2) Rx_5.out rfl
  have zx2 := frozen_of_row _ _ 2 _ _ Rx_5.out
  have xx := heap_lt Rx_5.out
  have fy0 := row_c (i := 0) Ry_5.out rfl
  have zy0 := frozen_of_row _ _ 0 _ _ Ry_5.out
  have fy1 := row_c (i := 1) Ry_5.out rfl
  have zy1 := frozen_of_row _ _ 1 _ _ Ry_5.out
  have fy2 := row_c (i := 2) Ry_5.out rfl
  have zy2 := frozen_of_row _ _ 2 _ _ Ry_5.out
  have xy := heap_lt Ry_5.out
  go_wp2_with fail
  refine (dagainst_any (k := k) (L5.out.get (A := A) (c := c) (xs := digs m.natAbs) (by simp)) (L5.out.get (A := B) (c := d) (xs := digs n.natAbs) (by simp)) lx.out ly.out x0 x1 y0 y1 HK.out).mono ?_
  rintro e w6 ⟨rfl, hb⟩
  have L6 := Lib.hid (L5.out.step hb)
  clear fx0 zx0 fx1 zx1 fx2 zx2 xx fy0 zy0 fy1 zy1 fy2 zy2 xy
  have Rx_6 := Lib.hid (cells_of Rx_5.out hb)
  have Ry_6 := Lib.hid (cells_of Ry_5.out hb)
  clear hb 
  go_wp2
  go_ret
  exact ⟨ret_i HQ.out, L6.out.1⟩

set_option maxHeartbeats 4000000 in
set_option maxRecDepth 100000 in
theorem cmp_gt_ (A B : Option Addr) (c d : Nat) (m n x y : Int) (w : World) (h : Dg w A c (digs m.natAbs)) (h' : Dg w B d (digs n.natAbs)) (hl : (digs m.natAbs).length ≤ 400000) (hl' : (digs n.natAbs).length ≤ 400000) (r1 : Rt m x) (r2 : Rt n y) {q : Int} (hq : cmpd (dv m x) (dv n y) = q) (hc : Int.sign n < Int.sign m):
    Calls Tryd.prog 28 #[.agg #[.bool (decide (m < 0)), .slice A (digs m.natAbs).length c, .int .i64 x], .agg #[.bool (decide (n < 0)), .slice B (digs n.natAbs).length d, .int .i64 y]] w fun e w' => e = .returned (.int .i64 q) ∧ Below w.heap.size w w' := by
  have x0 := r1.2.1
  have x1 := r1.2.2
  have y0 := r2.2.1
  have y1 := r2.2.2
  have DX := Lib.hid (fun W hW => dright_any A c (decide (m < 0)) (digs m.natAbs) x W hW true (dyR_num r1) (by omega))
  have DY := Lib.hid (fun W hW => dright_any B d (decide (n < 0)) (digs n.natAbs) y W hW true (dyR_num r2) (by omega))
  have lx := Lib.hid hl
  have ly := Lib.hid hl'
  obtain rfl : q = 1 := by rw [← hq]; exact cmp_more hc
  have b1 := sign_bd m
  have b2 := sign_bd n
  obtain ⟨s1, hs1⟩ : ∃ s, Int.sign m = s := ⟨_, rfl⟩
  obtain ⟨s2, hs2⟩ : ∃ s, Int.sign n = s := ⟨_, rfl⟩
  rw [hs1, hs2] at hc
  rw [hs1] at b1
  rw [hs2] at b2
  obtain ⟨b10, b11⟩ := b1
  obtain ⟨b20, b21⟩ := b2
  have S1 := Lib.hid hs1
  have S2 := Lib.hid hs2
  have d1 : (s1 != s2) = true := by simp; omega
  have d1' : (s1 == s2) = false := by simp; omega
  have d2 : decide (s1 < s2) = false := by simp; omega
  have L0 := Lib.hid (((live_start w).add h).add h')
  clear hl hl' hc hs1 hs2 h h' r1 r2 hq
  go_enter Tryd.func28, Tryd.ntmps28
  go_wp2_with fail
  obtain ⟨v1, hW⟩ : ∃ W : World, W = ((w.alloc (.cells #[.bool (decide (m < 0)), .slice A (digs m.natAbs).length c, .int .i64 x] 26)).alloc (.cells #[.bool (decide (n < 0)), .slice B (digs n.natAbs).length d, .int .i64 y] 26)) := ⟨_, rfl⟩
  rw [← hW]
  have hb : Below w.heap.size w v1 := by rw [hW]; exact (((Below.refl _ _).alloc (by simp <;> omega) _).alloc (by simp <;> omega) _)
  have L1 := Lib.hid (L0.out.step hb)
  have Rx_1 := Lib.hid (show v1.heap[w.heap.size]? = some (.cells #[.bool (decide (m < 0)), .slice A (digs m.natAbs).length c, .int .i64 x] 26 (0, 0)) by rw [hW]; have := heap_alloc_new w (.cells #[.bool (decide (m < 0)), .slice A (digs m.natAbs).length c, .int .i64 x] 26); rw [heap_alloc_old _ _ (by simp <;> omega)]; simpa using this)
  have Gx : w.heap.size ≤ w.heap.size := by have := L0.out.1.size; omega
  have Ry_1 := Lib.hid (show v1.heap[w.heap.size + 1]? = some (.cells #[.bool (decide (n < 0)), .slice B (digs n.natAbs).length d, .int .i64 y] 26 (0, 0)) by rw [hW]; have := heap_alloc_new (w.alloc (.cells #[.bool (decide (m < 0)), .slice A (digs m.natAbs).length c, .int .i64 x] 26)) (.cells #[.bool (decide (n < 0)), .slice B (digs n.natAbs).length d, .int .i64 y] 26); simpa using this)
  have Gy : w.heap.size ≤ w.heap.size + 1 := by have := L0.out.1.size; omega
  have Nxy : w.heap.size < w.heap.size + 1 := by omega
  clear hW hb
  refine (DX.out _ (L1.out.get (A := A) (c := c) (xs := digs m.natAbs) (by simp))).mono ?_
  rintro e w2 ⟨rfl, hb⟩
  have L2 := Lib.hid (L1.out.step hb)
  have Rx_2 := Lib.hid (cells_of Rx_1.out hb)
  have Ry_2 := Lib.hid (cells_of Ry_1.out hb)
  clear hb 
  have fx0 := row_c (i := 0) Rx_2.out rfl
  have zx0 := frozen_of_row _ _ 0 _ _ Rx_2.out
  have fx1 := row_c (i := 1) Rx_2.out rfl
  have zx1 := frozen_of_row _ _ 1 _ _ Rx_2.out
  have fx2 := row_c (i := 2) Rx_2.out rfl
  have zx2 := frozen_of_row _ _ 2 _ _ Rx_2.out
  have xx := heap_lt Rx_2.out
  have fy0 := row_c (i := 0) Ry_2.out rfl
  have zy0 := frozen_of_row _ _ 0 _ _ Ry_2.out
  have fy1 := row_c (i := 1) Ry_2.out rfl
  have zy1 := frozen_of_row _ _ 1 _ _ Ry_2.out
  have fy2 := row_c (i := 2) Ry_2.out rfl
  have zy2 := frozen_of_row _ _ 2 _ _ Ry_2.out
  have xy := heap_lt Ry_2.out
  go_wp2_with fail
  refine (DY.out _ (L2.out.get (A := B) (c := d) (xs := digs n.natAbs) (by simp))).mono ?_
  rintro e w3 ⟨rfl, hb⟩
  have L3 := Lib.hid (L2.out.step hb)
  clear fx0 zx0 fx1 zx1 fx2 zx2 xx fy0 zy0 fy1 zy1 fy2 zy2 xy
  have Rx_3 := Lib.hid (cells_of Rx_2.out hb)
  have Ry_3 := Lib.hid (cells_of Ry_2.out hb)
  clear hb 
  have fx0 := row_c (i := 0) Rx_3.out rfl
  have zx0 := frozen_of_row _ _ 0 _ _ Rx_3.out
  have fx1 := row_c (i := 1) Rx_3.out rfl
  have zx1 := frozen_of_row _ _ 1 _ _ Rx_3.out
  have fx2 := row_c (i := 2) Rx_3.out rfl
  have zx2 := frozen_of_row _ _ 2 _ _ Rx_3.out
  have xx := heap_lt Rx_3.out
  have fy0 := row_c (i := 0) Ry_3.out rfl
  have zy0 := frozen_of_row _ _ 0 _ _ Ry_3.out
  have fy1 := row_c (i := 1) Ry_3.out rfl
  have zy1 := frozen_of_row _ _ 1 _ _ Ry_3.out
  have fy2 := row_c (i := 2) Ry_3.out rfl
  have zy2 := frozen_of_row _ _ 2 _ _ Ry_3.out
  have xy := heap_lt Ry_3.out
  go_wp2_with fail
  refine (sign_dz (x := x) S1.out).mono ?_
  rintro e w4 ⟨rfl, hb⟩
  have L4 := Lib.hid (L3.out.step hb)
  clear fx0 zx0 fx1 zx1 fx2 zx2 xx fy0 zy0 fy1 zy1 fy2 zy2 xy
  have Rx_4 := Lib.hid (cells_of Rx_3.out hb)
  have Ry_4 := Lib.hid (cells_of Ry_3.out hb)
  clear hb 
  have fx0 := row_c (i := 0) Rx_4.out rfl
  have zx0 := frozen_of_row _ _ 0 _ _ Rx_4.out
  have fx1 := row_c (i := 1) Rx_4.out rfl
  have zx1 := frozen_of_row _ _ 1 _ _ Rx_4.out
  have fx2 := row_c (i := 2) Rx_4.out rfl
  have zx2 := frozen_of_row _ _ 2 _ _ Rx_4.out
  have xx := heap_lt Rx_4.out
  have fy0 := row_c (i := 0) Ry_4.out rfl
  have zy0 := frozen_of_row _ _ 0 _ _ Ry_4.out
  have fy1 := row_c (i := 1) Ry_4.out rfl
  have zy1 := frozen_of_row _ _ 1 _ _ Ry_4.out
  have fy2 := row_c (i := 2) Ry_4.out rfl
  have zy2 := frozen_of_row _ _ 2 _ _ Ry_4.out
  have xy := heap_lt Ry_4.out
  go_wp2_with fail
  refine (sign_dz (x := y) S2.out).mono ?_
  rintro e w5 ⟨rfl, hb⟩
  have L5 := Lib.hid (L4.out.step hb)
  clear fx0 zx0 fx1 zx1 fx2 zx2 xx fy0 zy0 fy1 zy1 fy2 zy2 xy
  have Rx_5 := Lib.hid (cells_of Rx_4.out hb)
  have Ry_5 := Lib.hid (cells_of Ry_4.out hb)
  clear hb 
  have fx0 := row_c (i := 0) Rx_5.out rfl
  have zx0 := frozen_of_row _ _ 0 _ _ Rx_5.out
  have fx1 := row_c (i := 1) Rx_5.out rfl
  have zx1 := frozen_of_row _ _ 1 _ _ Rx_5.out
  have fx2 := row_c (i := 2) Rx_5.out rfl
  have zx2 := frozen_of_row _ _ 2 _ _ Rx_5.out
  have xx := heap_lt Rx_5.out
  have fy0 := row_c (i := 0) Ry_5.out rfl
  have zy0 := frozen_of_row _ _ 0 _ _ Ry_5.out
  have fy1 := row_c (i := 1) Ry_5.out rfl
  have zy1 := frozen_of_row _ _ 1 _ _ Ry_5.out
  have fy2 := row_c (i := 2) Ry_5.out rfl
  have zy2 := frozen_of_row _ _ 2 _ _ Ry_5.out
  have xy := heap_lt Ry_5.out
  go_wp2_with fail
  refine (sign_dz (x := y) S2.out).mono ?_
  rintro e w6 ⟨rfl, hb⟩
  have L6 := Lib.hid (L5.out.step hb)
  clear fx0 zx0 fx1 zx1 fx2 zx2 xx fy0 zy0 fy1 zy1 fy2 zy2 xy
  have Rx_6 := Lib.hid (cells_of Rx_5.out hb)
  have Ry_6 := Lib.hid (cells_of Ry_5.out hb)
  clear hb 
  go_wp2
  go_ret
  exact ⟨rfl, L6.out.1⟩

theorem dcmp_any {A B : Option Addr} {c d : Nat} {m n x y q : Int} {w : World} (h : Dg w A c (digs m.natAbs)) (h' : Dg w B d (digs n.natAbs)) (hl : (digs m.natAbs).length ≤ 400000) (hl' : (digs n.natAbs).length ≤ 400000) (r1 : Rt m x) (r2 : Rt n y) (hq : cmpd (dv m x) (dv n y) = q) :
    Calls Tryd.prog 28 #[.agg #[.bool (decide (m < 0)), .slice A (digs m.natAbs).length c, .int .i64 x], .agg #[.bool (decide (n < 0)), .slice B (digs n.natAbs).length d, .int .i64 y]] w fun e w' => e = .returned (.int .i64 q) ∧ Below w.heap.size w w' := by
  rcases Int.lt_trichotomy (Int.sign m) (Int.sign n) with hc | hc | hc
  · exact cmp_lt_ A B c d m n x y w h h' hl hl' r1 r2 hq hc
  · exact cmp_eq_ A B c d m n x y w h h' hl hl' r1 r2 hq hc
  · exact cmp_gt_ A B c d m n x y w h h' hl hl' r1 r2 hq hc
end Go.Proofs.YtnfafgpnnpapdaaDoor
end
