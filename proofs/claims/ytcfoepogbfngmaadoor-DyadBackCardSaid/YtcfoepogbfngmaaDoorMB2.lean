import Derived.Test.YtcfoepogbfngmaaDoorMB1
import Derived.Test.YtcfoepogbfngmaaDoorMB0
import Derived.Laws.OwnMore
section
/-
  dyad.begin: are they right?
-/
namespace Go.Proofs.YtcfoepogbfngmaaDoor
open Go.RowKit
set_option linter.unusedSimpArgs false
set_option linter.unusedVariables false
/-- What went wrong with the first k of some numbers. -/
def wrong (R : Nat → Bool) : Nat → Int
  | 0 => 0
  | k + 1 => if R k = false ∧ wrong R k = 0 then 1 else wrong R k
theorem wrong_bd (R : Nat → Bool) : ∀ k, wrong R k = 0 ∨ wrong R k = 1
  | 0 => .inl rfl
  | k + 1 => by
    unfold wrong
    split
    · exact .inr rfl
    · exact wrong_bd R k
/-- Numbers in a row of cells. -/
def DyRow (w : World) (b n : Nat) (S : Nat → Bool) (A : Nat → Option Addr) (C : Nat → Nat) (X : Nat → List Nat) (E : Nat → Int) : Prop :=
  ∀ i, i < n → w.cell? ⟨b, i * 3, none⟩ = some (.bool (S i)) ∧ w.cell? ⟨b, i * 3 + 1, none⟩ = some (.slice (A i) (X i).length (C i)) ∧ w.cell? ⟨b, i * 3 + 2, none⟩ = some (.int .i64 (E i)) ∧ Dg w (A i) (C i) (X i)
set_option maxHeartbeats 2000000 in
set_option maxRecDepth 100000 in
theorem begin_any (b n c : Nat) (S : Nat → Bool) (A : Nat → Option Addr) (C : Nat → Nat) (X : Nat → List Nat) (E : Nat → Int) (R : Nat → Bool) (w : World) (hb : b < w.heap.size) (hrow : DyRow w b n S A C X E) (hR : ∀ i, i < n → dyR (S i) (X i) (E i) = R i) (hX : ∀ i, i < n → (X i).length ≤ 9223372036854775807) (hn : n ≤ 16) (hc : n ≤ c) :
    Calls Tryd.prog 15 #[.slice (some ⟨b, 0, none⟩) n c] w fun e w' => e = .returned (.agg #[.int .i64 (wrong R n)]) ∧ Below w.heap.size w w' := by
  have H := Lib.hid hrow
  have HR := Lib.hid hR
  have HX := Lib.hid hX
  have HC := Lib.hid hc
  clear hrow hR hX hc
  go_enter Tryd.func15, Tryd.ntmps15
  go_wp2
  go_loopw [8] (fun i wr => ∃ k : Nat, k ≤ n ∧ i = .int .i64 k ∧ Hid (Below w.heap.size w wr) ∧ Hid (wr.heap[w.heap.size]? = some (.cells #[.int .i64 0] 48 (0, 0))) ∧ Hid (wr.heap[w.heap.size + 1]? = some (.cells #[.int .i64 (wrong R k)] 48 (0, 0)))) (fun i _ => n - (intOf i).toNat)
  case atStart => exact ⟨0, Nat.zero_le _, rfl, Lib.hid (below2 _ _ _), Lib.hid (heap_alloc2_old _ _ _), Lib.hid (heap_alloc2_new _ _ _)⟩
  case round =>
    obtain ⟨k, hk, rfl, HB, H1, H2⟩ := hrel
    by_cases hlt : k < n
    · obtain ⟨c0, c1, c2, hd⟩ := H.out k hlt
      have g0 := (HB.out.cell (p := ⟨b, k * 3, none⟩) hb).trans c0
      have g1 := (HB.out.cell (p := ⟨b, k * 3 + 1, none⟩) hb).trans c1
      have g2 := (HB.out.cell (p := ⟨b, k * 3 + 2, none⟩) hb).trans c2
      have HD := Lib.hid (hd.below HB.out)
      have hsz := heap_lt H2.out
      clear c0 c1 c2 hd
      go_wp2_with fail
      refine (dright_any (A k) (C k) (S k) (X k) (E k) _ (HD.out.below (below1 wr (.cells #[.bool (S k), .slice (A k) (X k).length (C k), .int .i64 (E k)] 26))) (R k) (HR.out k hlt) (HX.out k hlt)).mono ?_
      rintro e w1 ⟨rfl, hb1⟩
      have K1 := Lib.hid ((below1 wr (.cells #[.bool (S k), .slice (A k) (X k).length (C k), .int .i64 (E k)] 26)).trans (hb1.mono (by simp)))
      clear hb1 g0 g1 g2
      have H1' := Lib.hid (cells_of H1.out K1.out)
      have H2' := Lib.hid (cells_of H2.out K1.out)
      have HB1 := Lib.hid (HB.out.trans (K1.out.mono HB.out.size))
      have r0 := cell_of_row w1 _ 0 _ _ _ H2'.out
      have z0 := frozen_of_row w1 _ 0 _ _ H2'.out
      simp only [List.getElem?_toArray, List.getElem?_cons_zero] at r0
      by_cases hw : R k = false ∧ wrong R k = 0
      · have HW := Lib.hid (show wrong R (k + 1) = 1 by rw [wrong, if_pos hw])
        rw [hw.2] at r0
        rw [hw.1]
        have TY := Lib.hid (tell_yes (w.heap.size + 1) 1 w1 r0 z0)
        clear hw r0 z0
        go_wp2_with fail
        refine TY.out.mono ?_
        rintro e w2 ⟨rfl, rfl⟩
        go_wp2
        go_roundw
        case rel =>
          refine ⟨k + 1, by omega, by go_num, Lib.hid (HB1.out.setCell (by simp) _), Lib.hid ?_, Lib.hid ?_⟩
          · rw [heap_setCell_other _ _ _ _ (by simp)]; exact H1'.out
          · rw [HW.out]; exact heap_setCell_same _ _ 0 _ _ _ H2'.out
        case measure => simp [intOf]; omega
      · have HW := Lib.hid (show wrong R (k + 1) = wrong R k by rw [wrong, if_neg hw])
        have TN := Lib.hid (tell_no (w.heap.size + 1) (wrong R k) 1 (!R k) w1 r0 (by
          rcases h1 : R k
          · right
            have h2 : ¬ wrong R k = 0 := fun h2 => hw ⟨h1, h2⟩
            simpa using h2
          · left; rfl))
        clear hw r0 z0
        go_wp2_with fail
        refine TN.out.mono ?_
        rintro e w2 ⟨rfl, rfl⟩
        go_wp2
        go_roundw
        case rel =>
          refine ⟨k + 1, by omega, by go_num, HB1, H1', Lib.hid ?_⟩
          rw [HW.out]; exact H2'.out
        case measure => simp [intOf]; omega
    · obtain rfl : k = n := by omega
      have f0 := cell_of_row wr _ 0 _ _ _ H1.out
      have r0 := cell_of_row wr _ 0 _ _ _ H2.out
      have z0 := frozen_of_row wr _ 0 _ _ H1.out
      simp only [List.getElem?_toArray, List.getElem?_cons_zero, List.getElem?_cons_succ] at f0 r0
      go_wp2
      refine bodyPost_ret (v := .agg #[.int .i64 (wrong R k)]) (by simp [results, Tryd.results15, go_sem, f0]) rfl ⟨rfl, ?_⟩
      exact HB.out.setCell (by simp) _
end Go.Proofs.YtcfoepogbfngmaaDoor
end

section
/-
  append(own, digits...), whatever memory holds the digits.
-/
namespace Go.Proofs.YtcfoepogbfngmaaDoor
open Go.RowKit
theorem run_append_nilcap {P : Program} {w : World} (base : Nat) (t ty e : TypeId) (i : TypeInfo) (size c : Nat) (ht : P.underlying t = some (.slice e)) (hi : P.info? e = some i)
    (v : Value) (n : Nat) (xs : List Value) (hown : w.ownsRow base e size v n xs) : (Builtin.append_ #[t, t] ty #[v, .slice none 0 c]).run P w = .ok v w := by
  rcases hown.2 with ⟨rfl, rfl⟩ | ⟨g, cap, cur, rfl, _, _, hnc, _⟩
  · simp [Builtin.append_, run_underlying ht, sizeOf, typeInfo, hi, Builtin.lenOf, Builtin.firstCells]
  · simp [Builtin.append_, run_underlying ht, sizeOf, typeInfo, hi, Builtin.lenOf, Builtin.firstCells, hnc, storeCells]
theorem wpList_append_dg {w : World} {ops : Array Oper} {rest : List Oper} {o : Oper} {a : Act} {Q : Exit → Act → World → Prop} (hgd : o.guard = none) (s x : Operand)
    (ho : o.op = .call { callee := .builtin .append, args := #[s, x], argTypes := #[22, 22] }) (base : Nat) (v : Value) (n : Nat) (zs ys : List Nat) (B : Option Addr) (d m : Nat)
    (hs : a.eval s = v) (hown : w.ownsRow base 41 1 v n (cells zs)) (hD : Dg w B d ys) (hm : m = ys.length) (hx : a.eval x = .slice B m d) (hb : n + m ≤ 1099511627776) (hbase : base ≤ w.heap.size)
    (h : ∀ v' w', w'.ownsRow base 41 1 v' (n + m) (cells (zs ++ ys)) → w.grownBy w' v.ownBlock → wpList Tryd.prog ops Q rest (a.put o.dst v') w') : wpList Tryd.prog ops Q (o :: rest) a w := by
  obtain ⟨i0, hi, hz0, hz1, hz2⟩ := info_parts elem_info
  have ec : cells (zs ++ ys) = cells zs ++ cells ys := by simp [cells]
  subst hm
  rcases B with _ | A
  · have h0 : ys = [] := by
      rcases Nat.eq_zero_or_pos ys.length with h0 | h0
      · exact List.eq_nil_of_length_eq_zero h0
      · obtain ⟨b, off, e, _⟩ := hD.2.2 h0
        cases e
    subst h0
    refine wpList_plain hgd fun K hK => ?_
    have hrun := run_append_nilcap (P := Tryd.prog) (w := w) base 22 o.type 41 i0 1 d Tryd.underlying22 hi v n (cells zs) hown
    unfold Oper.wp
    simp at hx
    simp [execOp, ho, resolve, invoke, builtin, hs, hx, hrun, Result.andThen]
    exact hK _ _ (h v w (by simpa using hown) (World.grownBy.refl _ _))
  · refine wpList_append_own _ hgd s x 22 ho base 41 i0 (.int .u32 0) 1 4 Tryd.underlying22 hi hz0 hz1 hz2 rfl (by decide) v n (cells zs) hs hown A ys.length d (cells ys) hx (by simp [cells]) (fun j u hj => dg_cell hD hj) (fun u hu => ?_) (by unfold maxLen; omega) (by omega) hbase fun v' w' h1 h2 _ => h v' w' (by rw [ec]; exact h1) h2
    unfold cells at hu; obtain ⟨x, _, rfl⟩ := List.mem_map.1 hu; rfl
end Go.Proofs.YtcfoepogbfngmaaDoor
end

section
/-
  dyad.zeros, lift, odd.
-/
namespace Go.Proofs.YtcfoepogbfngmaaDoor
open Go.RowKit
set_option linter.unusedSimpArgs false
set_option linter.unusedVariables false
/-- The first digit that is not 0. -/
theorem low_ex : ∀ (xs : List Nat), val xs ≠ 0 → ∃ i, i < xs.length ∧ xs[i]?.getD 0 ≠ 0 ∧ ∀ j, j < i → xs[j]?.getD 0 = 0 := by
  intro xs
  induction xs with
  | nil => intro h; exact absurd rfl h
  | cons x r ih =>
    intro h
    by_cases hx : x = 0
    · obtain ⟨i, h1, h2, h3⟩ := ih (by intro h0; apply h; simp only [val]; omega)
      refine ⟨i + 1, by simp; omega, by simpa using h2, fun j hj => ?_⟩
      rcases j with _ | j
      · simpa using hx
      · simpa using h3 j (by omega)
    · exact ⟨0, by simp, by simpa using hx, fun j hj => by omega⟩
set_option maxHeartbeats 2000000 in
set_option maxRecDepth 100000 in
theorem zeros_any (A : Option Addr) (c : Nat) (xs : List Nat) (w : World) (h : Dg w A c xs) (hv : val xs ≠ 0) (hl : xs.length ≤ 1000000) (hT : T32 w) :
    Calls Tryd.prog 45 #[.slice A xs.length c] w fun e w' => e = .returned (.int .i64 (tz (val xs) : Nat)) ∧ w = w' := by
  obtain ⟨i, hi, hne, hz⟩ := low_ex xs hv
  have HV := Lib.hid (tz_val xs i hz hi hne h.2.1)
  have hx := getD_lt h.2.1 i
  have HT := Lib.hid (tz32_any _ hne hx w hT)
  have htl := tz_lt hne (show xs[i]?.getD 0 < 2 ^ 32 by omega)
  obtain ⟨b, off, hA, hb, hc⟩ := h.2.2 (by omega)
  have hcap := h.1
  have HC := Lib.hid hc
  have HZ := Lib.hid hz
  have HN := Lib.hid hne
  have ci := hc i hi
  generalize xs[i]?.getD 0 = d at *
  obtain ⟨t, ht⟩ : ∃ t : Nat, tz d = t := ⟨_, rfl⟩
  rw [ht] at HV htl HT
  have HH := Lib.hid ht
  clear h hv hc hz hne hT ht
  subst hA
  go_enter Tryd.func45, Tryd.ntmps45
  go_wp2
  go_loop [3] (fun n => ∃ k : Nat, k ≤ i ∧ n = .int .i64 k) (fun n => i - (intOf n).toNat)
  case atStart => exact ⟨0, by omega, rfl⟩
  case round =>
    obtain ⟨k, hk, rfl⟩ := hrel
    have hkl : k < xs.length := by omega
    by_cases hlt : k < i
    · have ck := HC.out k hkl
      rw [HZ.out k hlt] at ck
      clear ci
      go_wp2
      go_round
      case rel => exact ⟨k + 1, by omega, by go_num⟩
      case measure => simp [intOf]; omega
    · obtain rfl : k = i := by omega
      have hdn : ((d : Int) == 0) = false := by have := HN.out; simp; omega
      go_wp2_with fail
      refine HT.out.mono ?_
      rintro e w' ⟨rfl, rfl⟩
      go_wp2
      go_ret
      exact ⟨ret_i (by rw [HV.out]; push_cast; omega), rfl⟩
theorem digs_shift {x : Nat} (h : x ≠ 0) : ∀ k : Nat, digs (x * 4294967296 ^ k) = List.replicate k 0 ++ digs x
  | 0 => by simp
  | k + 1 => by
    have hp : 0 < x * 4294967296 ^ k := Nat.mul_pos (by omega) (Nat.pow_pos (by omega))
    have e : x * 4294967296 ^ (k + 1) = x * 4294967296 ^ k * 4294967296 := by rw [Nat.pow_succ, Nat.mul_assoc]
    rw [e, digs_pos (by omega), Nat.mul_mod_left, Nat.mul_div_cancel _ (by omega), digs_shift h k, List.replicate_succ]
    rfl
theorem pow_parts2 (x n : Nat) : x * 2 ^ n = x * 2 ^ (n % 32) * 4294967296 ^ (n / 32) := by
  rw [show (4294967296 : Nat) = 2 ^ 32 from rfl, ← Nat.pow_mul, Nat.mul_assoc, ← Nat.pow_add, show n % 32 + 32 * (n / 32) = n by omega]
theorem ok_zeros2 (k : Nat) {xs : List Nat} (h : ok32 xs) : ok32 (List.replicate k 0 ++ xs) := by
  intro y hy
  rcases List.mem_append.1 hy with h1 | h1
  · have := (List.mem_replicate.1 h1).2; omega
  · exact h y h1
set_option maxHeartbeats 2000000 in
set_option maxRecDepth 100000 in
theorem lift_any (A : Option Addr) (c : Nat) (xs : List Nat) (n : Nat) (w : World) (h : Dg w A c xs) (hl : xs.length ≤ 500000) (hn : n ≤ 1000000) :
    Calls Tryd.prog 33 #[.slice A xs.length c, .int .i64 n] w fun e w' => ∃ A' c', e = .returned (.slice A' (digs (val xs * 2 ^ n)).length c') ∧ Dg w' A' c' (digs (val xs * 2 ^ n)) ∧ Below w.heap.size w w' := by
  have hk0 := h.2.1
  have HS := Lib.hid (shl_any A c xs (n % 32) w h (by omega) (by omega))
  rw [show ((n % 32 : Nat) : Int) = (n : Int) % 32 by omega] at HS
  clear h
  by_cases hlt : n < 32
  · have e : n % 32 = n := by omega
    rw [e] at HS
    have d1 : decide ((n : Int) < 32) = true := by simp; omega
    clear e hlt
    go_enter Tryd.func33, Tryd.ntmps33
    go_wp2_with fail
    refine HS.out.mono ?_
    rintro e w1 ⟨A1, c1, rfl, hd, hb⟩
    have K := Lib.hid (And.intro hd hb)
    clear hd hb
    go_wp2
    go_ret
    exact ⟨A1, c1, rfl, K.out.1, K.out.2⟩
  · have d1 : decide ((n : Int) < 32) = false := by simp; omega
    have hp := pow_parts2 (val xs) n
    have hly0 := digs_mul_len (val xs) (2 ^ (n % 32))
    have hly1 := digs_len_lt (m := 1) (n := 2 ^ (n % 32)) (by
      have : 2 ^ (n % 32) < 2 ^ 32 := Nat.pow_lt_pow_right (by omega) (by omega)
      omega)
    have hly2 := digs_len_mono (val xs) _ (Nat.le_refl _)
    have hly3 : (digs (val xs * 2 ^ (n % 32))).length ≤ 1000000 := by
      have := digs_len_le hk0
      omega
    clear hly0 hly1 hly2
    generalize val xs * 2 ^ (n % 32) = y at *
    by_cases hy : y = 0
    · have e0 : val xs * 2 ^ n = 0 := by rw [hp, hy, Nat.zero_mul]
      rw [e0]
      rw [hy] at HS
      have d2 : (((digs 0).length : Int) == 0) = true := by rw [digs_zero]; rfl
      clear hp hy e0 hlt hly3
      generalize digs 0 = zs at *
      go_enter Tryd.func33, Tryd.ntmps33
      go_wp2_with fail
      refine HS.out.mono ?_
      rintro e w1 ⟨A1, c1, rfl, hd, hb⟩
      have K := Lib.hid (And.intro hd hb)
      clear hd hb
      go_wp2
      go_ret
      exact ⟨A1, c1, rfl, K.out.1, K.out.2⟩
    · have HD := Lib.hid (digs_shift hy (n / 32))
      rw [← hp] at HD
      have d2 : (((digs y).length : Int) == 0) = false := beq_eq_false_iff_ne.2 (by have : (digs y).length ≠ 0 := fun e => hy (digs_nil.1 e); omega)
      have hk := ok_digs y
      have HK := Lib.hid (ok_zeros2 (n / 32) hk)
      have hmk := run_make_row' (P := Tryd.prog) 22 41 (.int .u32 0) 4 Tryd.underlying22 elem_info rfl .i64 .i64 (n / 32) (by omega) (by omega)
      rw [show ((n / 32 : Nat) : Int) = (n : Int) / 32 by omega] at hmk
      clear hp hy hk hlt
      generalize val xs * 2 ^ n = v at *
      generalize digs y = zs at *
      go_enter Tryd.func33, Tryd.ntmps33
      go_wp2_with fail
      refine HS.out.mono ?_
      rintro e w1 ⟨A1, c1, rfl, hd, hb⟩
      have HO := Lib.hid (own_zeros (w := w1) (e := 41) (n / 32) (by unfold maxLen; omega))
      have K := Lib.hid (And.intro hd hb)
      clear hd hb
      go_wp2_with (at_builtin; refine wpList_append_dg rfl _ _ rfl w1.heap.size _ (n / 32) (List.replicate (n / 32) 0) zs A1 c1 zs.length rfl HO.out (K.out.1.below (below1 _ _)) rfl rfl (by omega) (by simp) ?_)
      intro v' w6 hown hgrow
      obtain ⟨A6, c6, hv, hd6⟩ := dg_of_own hown HK.out
      have hb6 := ((below1 w1 (.cells (madeCells #[.int .u32 0] (n / 32)) 41))).grown hgrow (by simp) (by intro k hk; simp [Value.ownBlock] at hk; omega)
      have K2 := Lib.hid (And.intro hd6 (K.out.2.trans (hb6.mono K.out.2.size)))
      subst hv
      clear hown hd6 hgrow hb6
      go_wp2
      go_ret
      refine ⟨A6, c6, ?_, ?_, K2.out.2⟩
      · rw [HD.out]; rfl
      · rw [HD.out]; exact K2.out.1
end Go.Proofs.YtcfoepogbfngmaaDoor
end

section
/-
  dyad.odd: the form of a number.
-/
namespace Go.Proofs.YtcfoepogbfngmaaDoor
open Go.RowKit
set_option linter.unusedSimpArgs false
set_option linter.unusedVariables false
/-- An answer: M times 2^E. -/
def Yr (M E : Int) (w : World) (e : Ending) (w' : World) : Prop := ∃ A c, e = .returned (.agg #[.bool (decide (M < 0)), .slice A (digs M.natAbs).length c, .int .i64 E]) ∧ Dg w' A c (digs M.natAbs) ∧ Below w.heap.size w w'
theorem yr_mk {M E : Int} {w w' : World} {A : Option Addr} {c : Nat} {s : Bool} {x : Nat} {y : Int} (hx : x = M.natAbs) (hs : s = decide (M < 0)) (hy : y = E) (hd : Dg w' A c (digs x)) (hb : Below w.heap.size w w') :
    Yr M E w (.returned (.agg #[.bool s, .slice A (digs x).length c, .int .i64 y])) w' := by
  subst hx hs hy; exact ⟨A, c, rfl, hd, hb⟩
theorem nm_sg {s : Bool} {x : Nat} (h : x ≠ 0) : (nm (sg s x)).natAbs = x / 2 ^ tz x ∧ s = decide (nm (sg s x) < 0) ∧ ∀ e, nx (sg s x) e = e + tz x := by
  have ha := sg_abs s x
  have h0 : sg s x ≠ 0 := by intro e; rw [e] at ha; omega
  have ⟨_, _, c⟩ := nm_back h0
  rw [ha] at c
  refine ⟨c, ?_, fun e => ?_⟩
  · rw [nm_neg_iff]; unfold sg; cases s
    · simp
    · simp; omega
  · unfold nx; rw [if_neg h0, ha]
set_option maxHeartbeats 2000000 in
set_option maxRecDepth 100000 in
theorem odd_any (A : Option Addr) (c : Nat) (s : Bool) (x : Nat) (y M E : Int) (w : World) (h : Dg w A c (digs x)) (hl : (digs x).length ≤ 500000) (hT : T32 w) (hy : -1000000000 ≤ y ∧ y ≤ 1000000000) (hM : nm (sg s x) = M) (hE : nx (sg s x) y = E) :
    Calls Tryd.prog 30 #[.agg #[.bool s, .slice A (digs x).length c], .int .i64 y] w fun e w' => Yr M E w e w' := by
  by_cases h0 : x = 0
  · have d0 : (((digs x).length : Int) == 0) = true := by rw [h0, digs_zero]; rfl
    have HM := Lib.hid (show M = 0 ∧ E = 0 by rw [← hM, ← hE, h0]; unfold sg; cases s <;> exact ⟨rfl, rfl⟩)
    clear h0 h hM hE hT
    go_enter Tryd.func30, Tryd.ntmps30
    go_wp2
    refine bodyPost_ret (v := .agg #[.bool false, .slice none 0 0, .int .i64 0]) (by simp [results, Tryd.results30, go_sem]) rfl ?_
    have e1 := HM.out.1
    have e2 := HM.out.2
    subst e1 e2
    refine ⟨none, 0, ?_, ?_, below2 _ _ _⟩
    · show _ = Ending.returned (.agg #[.bool false, .slice none (digs 0).length 0, .int .i64 0])
      rw [digs_zero]; rfl
    · show Dg _ none 0 (digs 0)
      rw [digs_zero]; exact Dg.nil_ _ _
  · have d0 : (((digs x).length : Int) == 0) = false := beq_eq_false_iff_ne.2 (by have : (digs x).length ≠ 0 := fun e => h0 (digs_nil.1 e); omega)
    have HN := Lib.hid (nm_sg (s := s) h0)
    rw [hM] at HN
    have HE := Lib.hid (hE ▸ HN.out.2.2 y)
    have HM := Lib.hid HN.out.1
    have HS := Lib.hid HN.out.2.1
    have HZ := Lib.hid (fun W (hW : Dg W A c (digs x)) (hT : T32 W) => zeros_any A c (digs x) W hW (by rw [val_digs]; exact h0) (by omega) hT)
    rw [val_digs] at HZ
    have htl := tz_lt (n := x) (k := 32 * (digs x).length) h0 (by have := val_lt (ok_digs x); rw [val_digs] at this; rw [Nat.pow_mul]; exact this)
    have HR := Lib.hid (fun W (hW : Dg W A c (digs x)) => shr_any A c (digs x) (tz x) W hW (by omega) (by omega))
    rw [val_digs] at HR
    have H := Lib.hid h
    have HT := Lib.hid hT
    have HX0 := Lib.hid h0
    generalize tz x = k at *
    obtain ⟨y0, y1⟩ := hy
    have hk : k ≤ 16000000 := by omega
    clear h0 h hM hE hT htl HN
    by_cases hk0 : k = 0
    · have d1 : decide (0 < k) = false := by rw [hk0]; rfl
      have HK := Lib.hid hk0
      clear hk0
      go_enter Tryd.func30, Tryd.ntmps30
      go_wp2_with fail
      refine (HZ.out _ (H.out.below (below2 w _ _)) (t32_below HT.out (below2 w _ _))).mono ?_
      rintro e w1 ⟨rfl, rfl⟩
      go_wp2
      refine bodyPost_ret (v := .agg #[.bool s, .slice A (digs x).length c, .int .i64 y]) (by simp [results, Tryd.results30, go_sem]) rfl ?_
      refine yr_mk ?_ HS.out ?_ (H.out.below (below2 _ _ _)) (below2 _ _ _)
      · rw [HM.out, HK.out]; simp
      · rw [HE.out, HK.out]; simp
    · have d1 : decide (0 < k) = true := by simp; omega
      have hyk : wrap64 (y + (k : Int)) = y + (k : Int) := IntWalk.wrap64_in _ ⟨by omega, by omega⟩
      clear hk0
      go_enter Tryd.func30, Tryd.ntmps30
      go_wp2_with fail
      refine (HZ.out _ (H.out.below (below2 w _ _)) (t32_below HT.out (below2 w _ _))).mono ?_
      rintro e w1 ⟨rfl, rfl⟩
      go_wp2_with fail
      refine (HR.out _ (H.out.below (below2 w _ _))).mono ?_
      rintro e w1 ⟨A1, c1, rfl, hd, hb⟩
      have f0 := row_cell (heap_alloc2_old w (.cells #[.bool s, .slice A (digs x).length c] 24) (.cells #[.bool false, .slice none 0 0, .int .i64 0] 26)) hb 0
      have f1 := row_cell (heap_alloc2_old w (.cells #[.bool s, .slice A (digs x).length c] 24) (.cells #[.bool false, .slice none 0 0, .int .i64 0] 26)) hb 1
      have z1 := row_frozen (heap_alloc2_old w (.cells #[.bool s, .slice A (digs x).length c] 24) (.cells #[.bool false, .slice none 0 0, .int .i64 0] 26)) hb 1
      have r0 := row_cell (heap_alloc2_new w (.cells #[.bool s, .slice A (digs x).length c] 24) (.cells #[.bool false, .slice none 0 0, .int .i64 0] 26)) hb 0
      have r1 := row_cell (heap_alloc2_new w (.cells #[.bool s, .slice A (digs x).length c] 24) (.cells #[.bool false, .slice none 0 0, .int .i64 0] 26)) hb 1
      have r2 := row_cell (heap_alloc2_new w (.cells #[.bool s, .slice A (digs x).length c] 24) (.cells #[.bool false, .slice none 0 0, .int .i64 0] 26)) hb 2
      have y0 := row_frozen (heap_alloc2_new w (.cells #[.bool s, .slice A (digs x).length c] 24) (.cells #[.bool false, .slice none 0 0, .int .i64 0] 26)) hb 0
      have y1 := row_frozen (heap_alloc2_new w (.cells #[.bool s, .slice A (digs x).length c] 24) (.cells #[.bool false, .slice none 0 0, .int .i64 0] 26)) hb 1
      have y2 := row_frozen (heap_alloc2_new w (.cells #[.bool s, .slice A (digs x).length c] 24) (.cells #[.bool false, .slice none 0 0, .int .i64 0] 26)) hb 2
      simp only [List.getElem?_toArray, List.getElem?_cons_zero, List.getElem?_cons_succ] at f0 f1 r0 r1 r2
      have HB := Lib.hid ((below2 w _ _).trans (hb.mono (by simp; omega)))
      have HO1 := Lib.hid (off_box (g := w.heap.size) hd ((below1 _ _).trans (hb.mono (by simp))) rfl noint2')
      have HO2 := Lib.hid (off_box (g := w.heap.size + 1) hd hb (by simp) noint3)
      have HD := Lib.hid hd
      clear hb hd
      go_wp2
      refine bodyPost_ret (v := .agg #[.bool s, .slice A1 (digs (x / 2 ^ k)).length c1, .int .i64 (y + k)]) (by simp [results, Tryd.results30, go_sem, f0, f1, r0, r1, r2]) rfl ?_
      refine yr_mk HM.out.symm HS.out HE.out.symm ?_ ?_
      · exact ((((HD.out.set_off HO1.out _ _).set_off HO2.out _ _).set_off HO2.out _ _).set_off HO2.out _ _)
      · exact ((((HB.out.setCell (by simp) _).setCell (by simp) _).setCell (by simp) _).setCell (by simp) _)
end Go.Proofs.YtcfoepogbfngmaaDoor
end

section
/-
  Words for the walks of dyad: boxes and what is alive.
-/
namespace Go.Proofs.YtcfoepogbfngmaaDoor
open Go.RowKit
theorem row_c {w : World} {g i : Nat} {cs : Array Value} {T : TypeId} {fr : Nat × Nat} {v : Value} (h : w.heap[g]? = some (.cells cs T fr)) (hv : cs[i]? = some v) : w.cell? ⟨g, i, none⟩ = some v := (cell_of_row _ _ _ _ _ _ h).trans hv
theorem live_only {w0 w w' : World} {L : List (Option Addr × Nat × List Nat)} {g : Nat} {zs : Array Value} {T : TypeId} {fr : Nat × Nat} (hL : Live w0 w L) (ho : Only g w w') (hg : w.heap[g]? = some (.cells zs T fr)) (hz : ∀ (i : Nat) (n : Int), zs[i]? ≠ some (.int .u32 n)) (h0 : w0.heap.size ≤ g) : Live w0 w' L :=
  ⟨ho.below hL.1 h0, fun t ht => (hL.2 t ht).kept (ho.kept hg hz)⟩
theorem noint_dy {A : Option Addr} {n c : Nat} {b : Bool} {x : Int} : ∀ (o : Nat) (m : Int), (#[Value.bool b, .slice A n c, .int .i64 x])[o]? ≠ some (.int .u32 m) := noint3
theorem noint_int {A : Option Addr} {n c : Nat} {b : Bool} : ∀ (o : Nat) (m : Int), (#[Value.bool b, .slice A n c])[o]? ≠ some (.int .u32 m) := noint2'
theorem noint_re {x : Int} : ∀ (o : Nat) (m : Int), (#[Value.int .i64 x])[o]? ≠ some (.int .u32 m) := by
  intro o m; rcases o with _ | o <;> simp
theorem fin3 {w0 w : World} {L : List (Option Addr × Nat × List Nat)} {g : Nat} {zs : Array Value} {T : TypeId} {a b c : Value} (hL : Live w0 w L) (hg : w.heap[g]? = some (.cells zs T (0, 0))) (hz : ∀ (i : Nat) (n : Int), zs[i]? ≠ some (.int .u32 n)) (h0 : w0.heap.size ≤ g) :
    Live w0 (((w.setCell ⟨g, 0, none⟩ a).setCell ⟨g, 1, none⟩ b).setCell ⟨g, 2, none⟩ c) L := live_only hL ((((Only.refl g w).setCell 0 _).setCell 1 _).setCell 2 _) hg hz h0
theorem fin2 {w0 w : World} {L : List (Option Addr × Nat × List Nat)} {g : Nat} {zs : Array Value} {T : TypeId} {a b : Value} (hL : Live w0 w L) (hg : w.heap[g]? = some (.cells zs T (0, 0))) (hz : ∀ (i : Nat) (n : Int), zs[i]? ≠ some (.int .u32 n)) (h0 : w0.heap.size ≤ g) :
    Live w0 ((w.setCell ⟨g, 0, none⟩ a).setCell ⟨g, 1, none⟩ b) L := live_only hL (((Only.refl g w).setCell 0 _).setCell 1 _) hg hz h0
theorem keep_b {W w' : World} {g : Nat} (hb : Below W.heap.size W w') (hg : g < W.heap.size) : ∀ o, w'.cell? ⟨g, o, none⟩ = W.cell? ⟨g, o, none⟩ := fun o => hb.cell (p := ⟨g, o, none⟩) hg
theorem keep_set {W w' : World} {g r i : Nat} {v : Value} (h : ∀ o, w'.cell? ⟨g, o, none⟩ = W.cell? ⟨g, o, none⟩) (hne : g ≠ r) : ∀ o, (w'.setCell ⟨r, i, none⟩ v).cell? ⟨g, o, none⟩ = W.cell? ⟨g, o, none⟩ := fun o => by
  rw [World.cell?_setCell_other _ _ _ _ (by intro e; simp only [Addr.mk.injEq] at e; omega)]; exact h o
theorem t32_live {w0 w : World} {L : List (Option Addr × Nat × List Nat)} (h : T32 w0) (hL : Live w0 w L) : T32 w := t32_below h hL.1
/-- An answer and whether it is one; an answer and an error. -/
def Yb (M E : Int) (q : Bool) (w : World) (e : Ending) (w' : World) : Prop := ∃ A c, e = .returned (.tuple #[.agg #[.bool (decide (M < 0)), .slice A (digs M.natAbs).length c, .int .i64 E], .bool q]) ∧ Dg w' A c (digs M.natAbs) ∧ Below w.heap.size w w'
def Ye (M E k : Int) (w : World) (e : Ending) (w' : World) : Prop := ∃ A c, e = .returned (.tuple #[.agg #[.bool (decide (M < 0)), .slice A (digs M.natAbs).length c, .int .i64 E], .int .i64 k]) ∧ Dg w' A c (digs M.natAbs) ∧ Below w.heap.size w w'
theorem sg_abs2 (z : Int) : sg (decide (z < 0)) z.natAbs = z := by
  unfold sg
  by_cases h : z < 0
  · rw [if_pos (by simpa using h)]; omega
  · rw [if_neg (by simpa using h)]; omega
theorem sg_dz (z : Int) : sg (decide (z < 0)) (val (digs z.natAbs)) = z := by rw [val_digs]; exact sg_abs2 z
theorem nm_len (z : Int) : (digs (nm z).natAbs).length ≤ (digs z.natAbs).length := by
  by_cases h : z = 0
  · subst h; exact Nat.le_refl _
  · have ⟨_, _, c⟩ := nm_back h
    rw [c]; exact digs_len_mono _ _ (Nat.div_le_self _ _)
theorem zero_yb {w w' : World} (h : Below w.heap.size w w') : Yb 0 0 false w (.returned (.tuple #[.agg #[.bool false, .slice none 0 0, .int .i64 0], .bool false])) w' := by
  refine ⟨none, 0, ?_, ?_, h⟩
  · show _ = Ending.returned (.tuple #[.agg #[.bool false, .slice none (digs 0).length 0, .int .i64 0], .bool false])
    rw [digs_zero]; rfl
  · show Dg _ none 0 (digs 0)
    rw [digs_zero]; exact Dg.nil_ _ _
theorem zero_ye {k : Int} {w w' : World} (h : Below w.heap.size w w') : Ye 0 0 k w (.returned (.tuple #[.agg #[.bool false, .slice none 0 0, .int .i64 0], .int .i64 k])) w' := by
  refine ⟨none, 0, ?_, ?_, h⟩
  · show _ = Ending.returned (.tuple #[.agg #[.bool false, .slice none (digs 0).length 0, .int .i64 0], .int .i64 k])
    rw [digs_zero]; rfl
  · show Dg _ none 0 (digs 0)
    rw [digs_zero]; exact Dg.nil_ _ _
theorem zero_yr {w w' : World} (h : Below w.heap.size w w') : Yr 0 0 w (.returned (.agg #[.bool false, .slice none 0 0, .int .i64 0])) w' := by
  refine ⟨none, 0, ?_, ?_, h⟩
  · show _ = Ending.returned (.agg #[.bool false, .slice none (digs 0).length 0, .int .i64 0])
    rw [digs_zero]; rfl
  · show Dg _ none 0 (digs 0)
    rw [digs_zero]; exact Dg.nil_ _ _
/-- A number that is right. -/
def Rt (m e : Int) : Prop := Nf m e ∧ -131072 ≤ e ∧ e ≤ 131072
theorem dyR_num {m e : Int} (h : Rt m e) : dyR (decide (m < 0)) (digs m.natAbs) e = true := by
  obtain ⟨hn, h0, h1⟩ := h
  unfold dyR
  rcases hn with ⟨rfl, rfl⟩ | hn
  · show (if (digs 0).length = 0 then _ else _) = true
    rw [digs_zero]; rfl
  · have hm : m.natAbs ≠ 0 := by omega
    have hl : (digs m.natAbs).length ≠ 0 := fun e => hm (digs_nil.1 e)
    rw [if_neg hl, decide_eq_true h0, decide_eq_true h1]
    have h2 : rightB (decide (m < 0)) (digs m.natAbs) = true := by
      unfold rightB
      rw [if_neg hl, decide_eq_true_eq]
      have hne : (digs m.natAbs).getLast? = (digs m.natAbs)[(digs m.natAbs).length - 1]? := List.getLast?_eq_getElem?
      rcases hd : (digs m.natAbs)[(digs m.natAbs).length - 1]? with _ | d
      · rw [List.getElem?_eq_none_iff] at hd; omega
      · exact last_digs (by rw [hne, hd]; rfl)
    have h3 : decide ((digs m.natAbs)[0]?.getD 0 % 2 = 1) = true := by
      rw [digs_pos hm, decide_eq_true_eq]
      simp only [List.getElem?_cons_zero, Option.getD_some]
      omega
    rw [h2, h3]; rfl
theorem begin_1 {w : World} {g : Nat} {A : Option Addr} {c : Nat} {s q : Bool} {xs : List Nat} {e : Int} {T : TypeId} (hR : w.heap[g]? = some (.cells #[.bool s, .slice A xs.length c, .int .i64 e] T (0, 0))) (h : Dg w A c xs) (hq : dyR s xs e = q) (hl : xs.length ≤ 9223372036854775807) {k : Int} (hk : (if q then 0 else 1) = k) :
    Calls Tryd.prog 15 #[.slice (some ⟨g, 0, none⟩) 1 1] w fun e w' => e = .returned (.agg #[.int .i64 k]) ∧ Below w.heap.size w w' := by
  have := begin_any g 1 1 (fun _ => s) (fun _ => A) (fun _ => c) (fun _ => xs) (fun _ => e) (fun _ => q) w (heap_lt hR) (fun i hi => by
    obtain rfl : i = 0 := by omega
    exact ⟨row_c hR rfl, row_c hR rfl, row_c hR rfl, h⟩) (fun _ _ => hq) (fun _ _ => hl) (by omega) (Nat.le_refl _)
  have e : wrong (fun _ => q) 1 = k := by rw [← hk]; cases q <;> rfl
  rw [e] at this; exact this
def pk {α : Type} (a b : α) : Nat → α
  | 0 => a
  | _ => b
theorem begin_2 {w : World} {g : Nat} {A B : Option Addr} {c d : Nat} {s r q p : Bool} {xs ys : List Nat} {e f : Int} {T : TypeId} (hR : w.heap[g]? = some (.cells #[.bool s, .slice A xs.length c, .int .i64 e, .bool r, .slice B ys.length d, .int .i64 f] T (0, 0))) (h : Dg w A c xs) (h' : Dg w B d ys) (hq : dyR s xs e = q) (hp : dyR r ys f = p) (hl : xs.length ≤ 9223372036854775807) (hl' : ys.length ≤ 9223372036854775807) {k : Int} (hk : (if q && p then 0 else 1) = k) :
    Calls Tryd.prog 15 #[.slice (some ⟨g, 0, none⟩) 2 2] w fun e w' => e = .returned (.agg #[.int .i64 k]) ∧ Below w.heap.size w w' := by
  have := begin_any g 2 2 (pk s r) (pk A B) (pk c d) (pk xs ys) (pk e f) (pk q p) w (heap_lt hR) (fun i hi => by
    rcases i with _ | i
    · exact ⟨row_c hR rfl, row_c hR rfl, row_c hR rfl, h⟩
    · obtain rfl : i = 0 := by omega
      exact ⟨row_c hR rfl, row_c hR rfl, row_c hR rfl, h'⟩) (fun i _ => by rcases i with _ | i; exact hq; exact hp) (fun i _ => by rcases i with _ | i; exact hl; exact hl') (by omega) (Nat.le_refl _)
  have e : wrong (pk q p) 2 = k := by rw [← hk]; cases q <;> cases p <;> rfl
  rw [e] at this; exact this
end Go.Proofs.YtcfoepogbfngmaaDoor
end

section
/-
  zint.Small.
-/
namespace Go.Proofs.YtcfoepogbfngmaaDoor
open Go.RowKit
theorem ret_ib {a b : Int} {p q : Bool} (h : a = b) (h' : p = q) : Ending.returned (.tuple #[.int .i64 a, .bool p]) = .returned (.tuple #[.int .i64 b, .bool q]) := by rw [h, h']
theorem wrap_i64_eq (x : Int) (h : -9223372036854775808 ≤ x) (h' : x ≤ 9223372036854775807) : IntKind.i64.wrap x = x := IntWalk.i64_in _ ⟨h, h'⟩
theorem turn_u64 (x : Nat) (h : 0 < x) (h' : x ≤ 9223372036854775808) : wrap64 (IntKind.u64.wrap (-(x : Int))) = -(x : Int) := by
  rw [wrap_u64_eq]; unfold wrap64; omega
set_option maxHeartbeats 2000000 in
set_option maxRecDepth 100000 in
theorem zsmall_neg (A : Option Addr) (c : Nat) (s : Bool) (xs : List Nat) (w : World) (h : Dg w A c xs) (hl : xs.length ≤ 1000000) (hz : s = true) (h0 : 0 < val xs) (h1 : val xs ≤ 9223372036854775808) :
    Calls Tryd.prog 22 #[.agg #[.bool s, .slice A xs.length c]] w fun e w' => e = .returned (.tuple #[.int .i64 (-(val xs : Int)), .bool true]) ∧ Below w.heap.size w w' := by
  have l1 := digs_len_le h.2.1
  obtain ⟨t1, ht1⟩ : ∃ t, (s && decide (0 < val xs)) = t := ⟨_, rfl⟩
  have TA := Lib.hid (fun W h => take_any A c s xs W h (by omega))
  have HC := Lib.hid (fun A1 c1 W h1 => small_any A1 c1 (digs (val xs)) W h1 (by omega))
  simp only [val_digs] at HC
  have e1 : (s && decide (0 < val xs)) = true := by rw [hz, decide_eq_true h0]; rfl
  rw [e1] at ht1
  rw [e1] at TA
  have hs : small? (val xs) = val xs := by unfold small?; rw [if_pos (by omega)]
  have hd : decide (val xs < 18446744073709551616) = true := decide_eq_true (by omega)
  rw [hs, hd] at HC
  have dd : decide (((val xs : Nat) : Int) ≤ 9223372036854775808) = true := by simp; omega
  have HT := Lib.hid (turn_u64 (val xs) h0 h1)
  clear hs hd e1 h0 h1 hz
  clear ht1
  generalize val xs = x at *
  go_enter Tryd.func22, Tryd.ntmps22
  go_wp2_with fail
  refine (TA.out _ (h.below (below1 _ _))).mono ?_
  rintro e w1 ⟨A1, c1, rfl, hd, hb⟩
  have K1 := Lib.hid hb
  have G1 := Lib.hid hd
  obtain ⟨hc1, hf1⟩ := bcell hb
  clear hb hd h
  go_wp2_with fail
  refine (HC.out A1 c1 _ (G1.out.below (below1 _ _))).mono ?_
  rintro e w2 ⟨rfl, nn, rfl⟩
  go_wp2
  go_ret2
  exact ⟨ret_ib HT.out rfl, below_drewN (((below1 w _).trans (K1.out.mono (by simp))).alloc (by have := K1.out.size; simp at this; omega) _) _⟩
set_option maxHeartbeats 2000000 in
set_option maxRecDepth 100000 in
theorem zsmall_pos (A : Option Addr) (c : Nat) (s : Bool) (xs : List Nat) (w : World) (h : Dg w A c xs) (hl : xs.length ≤ 1000000) (hz : (s && decide (0 < val xs)) = false) (h1 : val xs ≤ 9223372036854775807) :
    Calls Tryd.prog 22 #[.agg #[.bool s, .slice A xs.length c]] w fun e w' => e = .returned (.tuple #[.int .i64 ((val xs : Nat) : Int), .bool true]) ∧ Below w.heap.size w w' := by
  have l1 := digs_len_le h.2.1
  obtain ⟨t1, ht1⟩ : ∃ t, (s && decide (0 < val xs)) = t := ⟨_, rfl⟩
  have TA := Lib.hid (fun W h => take_any A c s xs W h (by omega))
  have HC := Lib.hid (fun A1 c1 W h1 => small_any A1 c1 (digs (val xs)) W h1 (by omega))
  simp only [val_digs] at HC
  rw [hz] at ht1
  rw [hz] at TA
  have hs : small? (val xs) = val xs := by unfold small?; rw [if_pos (by omega)]
  have hd : decide (val xs < 18446744073709551616) = true := decide_eq_true (by omega)
  rw [hs, hd] at HC
  have dd : decide (((val xs : Nat) : Int) ≤ 9223372036854775807) = true := by simp; omega
  have HT := Lib.hid (wrap_i64_eq (val xs) (by omega) (by omega))
  clear hs hd hz
  clear ht1
  generalize val xs = x at *
  go_enter Tryd.func22, Tryd.ntmps22
  go_wp2_with fail
  refine (TA.out _ (h.below (below1 _ _))).mono ?_
  rintro e w1 ⟨A1, c1, rfl, hd, hb⟩
  have K1 := Lib.hid hb
  have G1 := Lib.hid hd
  obtain ⟨hc1, hf1⟩ := bcell hb
  clear hb hd h
  go_wp2_with fail
  refine (HC.out A1 c1 _ (G1.out.below (below1 _ _))).mono ?_
  rintro e w2 ⟨rfl, nn, rfl⟩
  go_wp2
  go_ret2
  exact ⟨rfl, below_drewN (((below1 w _).trans (K1.out.mono (by simp))).alloc (by have := K1.out.size; simp at this; omega) _) _⟩
set_option maxHeartbeats 2000000 in
set_option maxRecDepth 100000 in
theorem zsmall_far (A : Option Addr) (c : Nat) (s : Bool) (xs : List Nat) (w : World) (h : Dg w A c xs) (hl : xs.length ≤ 1000000) (h1 : 18446744073709551616 ≤ val xs) :
    Calls Tryd.prog 22 #[.agg #[.bool s, .slice A xs.length c]] w fun e w' => e = .returned (.tuple #[.int .i64 0, .bool false]) ∧ Below w.heap.size w w' := by
  have l1 := digs_len_le h.2.1
  obtain ⟨t1, ht1⟩ : ∃ t, (s && decide (0 < val xs)) = t := ⟨_, rfl⟩
  have TA := Lib.hid (fun W h => take_any A c s xs W h (by omega))
  have HC := Lib.hid (fun A1 c1 W h1 => small_any A1 c1 (digs (val xs)) W h1 (by omega))
  simp only [val_digs] at HC
  rw [ht1] at TA
  have hd : decide (val xs < 18446744073709551616) = false := decide_eq_false (by omega)
  rw [hd] at HC
  clear hd
  clear ht1
  generalize val xs = x at *
  go_enter Tryd.func22, Tryd.ntmps22
  go_wp2_with fail
  refine (TA.out _ (h.below (below1 _ _))).mono ?_
  rintro e w1 ⟨A1, c1, rfl, hd, hb⟩
  have K1 := Lib.hid hb
  have G1 := Lib.hid hd
  obtain ⟨hc1, hf1⟩ := bcell hb
  clear hb hd h
  go_wp2_with fail
  refine (HC.out A1 c1 _ (G1.out.below (below1 _ _))).mono ?_
  rintro e w2 ⟨rfl, nn, rfl⟩
  go_wp2
  go_ret2
  exact ⟨rfl, below_drewN (((below1 w _).trans (K1.out.mono (by simp))).alloc (by have := K1.out.size; simp at this; omega) _) _⟩
set_option maxHeartbeats 2000000 in
set_option maxRecDepth 100000 in
theorem zsmall_negfar (A : Option Addr) (c : Nat) (s : Bool) (xs : List Nat) (w : World) (h : Dg w A c xs) (hl : xs.length ≤ 1000000) (hz : s = true) (h0 : 9223372036854775808 < val xs) (h1 : val xs < 18446744073709551616) :
    Calls Tryd.prog 22 #[.agg #[.bool s, .slice A xs.length c]] w fun e w' => e = .returned (.tuple #[.int .i64 0, .bool false]) ∧ Below w.heap.size w w' := by
  have l1 := digs_len_le h.2.1
  obtain ⟨t1, ht1⟩ : ∃ t, (s && decide (0 < val xs)) = t := ⟨_, rfl⟩
  have TA := Lib.hid (fun W h => take_any A c s xs W h (by omega))
  have HC := Lib.hid (fun A1 c1 W h1 => small_any A1 c1 (digs (val xs)) W h1 (by omega))
  simp only [val_digs] at HC
  have e1 : (s && decide (0 < val xs)) = true := by rw [hz, decide_eq_true (by omega)]; rfl
  rw [e1] at ht1
  rw [e1] at TA
  have hs : small? (val xs) = val xs := by unfold small?; rw [if_pos (by omega)]
  have hd : decide (val xs < 18446744073709551616) = true := decide_eq_true (by omega)
  rw [hs, hd] at HC
  have dd : decide (((val xs : Nat) : Int) ≤ 9223372036854775808) = false := by simp; omega
  clear hs hd e1 h0 h1 hz
  clear ht1
  generalize val xs = x at *
  go_enter Tryd.func22, Tryd.ntmps22
  go_wp2_with fail
  refine (TA.out _ (h.below (below1 _ _))).mono ?_
  rintro e w1 ⟨A1, c1, rfl, hd, hb⟩
  have K1 := Lib.hid hb
  have G1 := Lib.hid hd
  obtain ⟨hc1, hf1⟩ := bcell hb
  clear hb hd h
  go_wp2_with fail
  refine (HC.out A1 c1 _ (G1.out.below (below1 _ _))).mono ?_
  rintro e w2 ⟨rfl, nn, rfl⟩
  go_wp2
  go_ret2
  exact ⟨rfl, below_drewN (((below1 w _).trans (K1.out.mono (by simp))).alloc (by have := K1.out.size; simp at this; omega) _) _⟩
set_option maxHeartbeats 2000000 in
set_option maxRecDepth 100000 in
theorem zsmall_posfar (A : Option Addr) (c : Nat) (s : Bool) (xs : List Nat) (w : World) (h : Dg w A c xs) (hl : xs.length ≤ 1000000) (hz : (s && decide (0 < val xs)) = false) (h0 : 9223372036854775807 < val xs) (h1 : val xs < 18446744073709551616) :
    Calls Tryd.prog 22 #[.agg #[.bool s, .slice A xs.length c]] w fun e w' => e = .returned (.tuple #[.int .i64 0, .bool false]) ∧ Below w.heap.size w w' := by
  have l1 := digs_len_le h.2.1
  obtain ⟨t1, ht1⟩ : ∃ t, (s && decide (0 < val xs)) = t := ⟨_, rfl⟩
  have TA := Lib.hid (fun W h => take_any A c s xs W h (by omega))
  have HC := Lib.hid (fun A1 c1 W h1 => small_any A1 c1 (digs (val xs)) W h1 (by omega))
  simp only [val_digs] at HC
  rw [hz] at ht1
  rw [hz] at TA
  have hs : small? (val xs) = val xs := by unfold small?; rw [if_pos (by omega)]
  have hd : decide (val xs < 18446744073709551616) = true := decide_eq_true (by omega)
  rw [hs, hd] at HC
  have dd : decide (((val xs : Nat) : Int) ≤ 9223372036854775807) = false := by simp; omega
  clear hs hd hz
  clear ht1
  generalize val xs = x at *
  go_enter Tryd.func22, Tryd.ntmps22
  go_wp2_with fail
  refine (TA.out _ (h.below (below1 _ _))).mono ?_
  rintro e w1 ⟨A1, c1, rfl, hd, hb⟩
  have K1 := Lib.hid hb
  have G1 := Lib.hid hd
  obtain ⟨hc1, hf1⟩ := bcell hb
  clear hb hd h
  go_wp2_with fail
  refine (HC.out A1 c1 _ (G1.out.below (below1 _ _))).mono ?_
  rintro e w2 ⟨rfl, nn, rfl⟩
  go_wp2
  go_ret2
  exact ⟨rfl, below_drewN (((below1 w _).trans (K1.out.mono (by simp))).alloc (by have := K1.out.size; simp at this; omega) _) _⟩
/-- What Small answers. -/
def smallz (z : Int) : Int := if -9223372036854775808 ≤ z ∧ z ≤ 9223372036854775807 then z else 0
def smallb (z : Int) : Bool := decide (-9223372036854775808 ≤ z ∧ z ≤ 9223372036854775807)
theorem zsmall_any (A : Option Addr) (c : Nat) (s : Bool) (xs : List Nat) (w : World) (h : Dg w A c xs) (hl : xs.length ≤ 1000000) (q : Int) (ok : Bool) (hq : smallz (sg s (val xs)) = q) (hok : smallb (sg s (val xs)) = ok) :
    Calls Tryd.prog 22 #[.agg #[.bool s, .slice A xs.length c]] w fun e w' => e = .returned (.tuple #[.int .i64 q, .bool ok]) ∧ Below w.heap.size w w' := by
  subst hq hok
  rcases Nat.lt_or_ge (val xs) 18446744073709551616 with h1 | h1
  · cases ht : (s && decide (0 < val xs))
    · have e : sg s (val xs) = (val xs : Int) := by
        rw [← sg_take, ht]; rfl
      rw [e]
      rcases Nat.lt_or_ge 9223372036854775807 (val xs) with h2 | h2
      · refine (zsmall_posfar A c s xs w h hl ht h2 h1).mono fun e w' ⟨he, hb⟩ => ⟨he.trans ?_, hb⟩
        exact ret_ib (by unfold smallz; rw [if_neg (by omega)]) (by unfold smallb; exact (decide_eq_false (by omega)).symm)
      · refine (zsmall_pos A c s xs w h hl ht h2).mono fun e w' ⟨he, hb⟩ => ⟨he.trans ?_, hb⟩
        exact ret_ib (by unfold smallz; rw [if_pos (by omega)]) (by unfold smallb; exact (decide_eq_true (by omega)).symm)
    · have e : sg s (val xs) = -(val xs : Int) := by
        rw [← sg_take, ht]; rfl
      simp only [Bool.and_eq_true, decide_eq_true_eq] at ht
      rw [e]
      rcases Nat.lt_or_ge 9223372036854775808 (val xs) with h2 | h2
      · refine (zsmall_negfar A c s xs w h hl ht.1 h2 h1).mono fun e w' ⟨he, hb⟩ => ⟨he.trans ?_, hb⟩
        exact ret_ib (by unfold smallz; rw [if_neg (by omega)]) (by unfold smallb; exact (decide_eq_false (by omega)).symm)
      · refine (zsmall_neg A c s xs w h hl ht.1 ht.2 h2).mono fun e w' ⟨he, hb⟩ => ⟨he.trans ?_, hb⟩
        exact ret_ib (by unfold smallz; rw [if_pos (by omega)]) (by unfold smallb; exact (decide_eq_true (by omega)).symm)
  · have e : sg s (val xs) = (val xs : Int) ∨ sg s (val xs) = -(val xs : Int) := by unfold sg; cases s <;> simp
    refine (zsmall_far A c s xs w h hl h1).mono fun e' w' ⟨he, hb⟩ => ⟨he.trans ?_, hb⟩
    exact ret_ib (by unfold smallz; rw [if_neg (by omega)]) (by unfold smallb; exact (decide_eq_false (by omega)).symm)
end Go.Proofs.YtcfoepogbfngmaaDoor
end

section
/-
  A number as bytes, and back: plain words, and zint's two contracts by whole numbers.
-/
namespace Go.Proofs.YtcfoepogbfngmaaDoor
open Go.RowKit
set_option linter.unusedSimpArgs false
set_option linter.unusedVariables false
def zb (m : Int) : List UInt8 := zbytes (decide (m < 0)) (digs m.natAbs)
theorem zb_right (m : Int) : rightB (decide (m < 0)) (digs m.natAbs) = true := by
  by_cases h0 : m.natAbs = 0
  · obtain rfl : m = 0 := by omega
    show rightB _ (digs 0) = true
    rw [digs_zero]; rfl
  · have hl : (digs m.natAbs).length ≠ 0 := fun e => h0 (digs_nil.1 e)
    unfold rightB
    rw [if_neg hl, decide_eq_true_eq]
    have hne : (digs m.natAbs).getLast? = (digs m.natAbs)[(digs m.natAbs).length - 1]? := List.getLast?_eq_getElem?
    rcases hd : (digs m.natAbs)[(digs m.natAbs).length - 1]? with _ | d
    · rw [List.getElem?_eq_none_iff] at hd; omega
    · exact last_digs (by rw [hne, hd]; rfl)
theorem bt_right (p l : List UInt8) (j : Nat) : Bt (p ++ l) (p.length + j) = Bt l j := by
  unfold Bt
  rw [List.getElem?_append_right (by omega), Nat.add_sub_cancel_left]
theorem u4_mid (p q : List UInt8) {x k : Nat} (hx : x < 4294967296) (hk : p.length = k) : u4 (p ++ (d4 x ++ q)) k = x := by
  subst hk
  have h0 : Bt (p ++ (d4 x ++ q)) p.length = x % 256 := by
    have := bt_right p (d4 x ++ q) 0
    rw [Nat.add_zero] at this
    rw [this]; simp [Bt, d4]
  have h1 : Bt (p ++ (d4 x ++ q)) (p.length + 1) = x / 256 % 256 := by rw [bt_right]; simp [Bt, d4]
  have h2 : Bt (p ++ (d4 x ++ q)) (p.length + 2) = x / 65536 % 256 := by rw [bt_right]; simp [Bt, d4]
  have h3 : Bt (p ++ (d4 x ++ q)) (p.length + 3) = x / 16777216 % 256 := by rw [bt_right]; simp [Bt, d4]
  unfold u4
  rw [h0, h1, h2, h3]
  omega
theorem hd2_zb (s : Bool) (xs : List Nat) (r : List UInt8) (h : xs.length ≤ 16000) : hd2 (zbytes s xs ++ r) = headN s xs.length := by
  have hb : headN s xs.length < 65536 := by unfold headN; cases s <;> simp <;> omega
  unfold hd2 zbytes
  generalize headN s xs.length = H at *
  have e0 : Bt (UInt8.ofNat (H / 256) :: UInt8.ofNat H :: lay4 xs ++ r) 0 = H / 256 % 256 := by simp [Bt]
  have e1 : Bt (UInt8.ofNat (H / 256) :: UInt8.ofNat H :: lay4 xs ++ r) 1 = H % 256 := by simp [Bt]
  rw [e0, e1]
  omega
theorem lay4_split (xs : List Nat) (i : Nat) (h : i < xs.length) : lay4 xs = lay4 (xs.take i) ++ (d4 (xs[i]?.getD 0) ++ lay4 (xs.drop (i + 1))) := by
  have e : xs = xs.take i ++ (xs[i]'h :: xs.drop (i + 1)) := by rw [← List.drop_eq_getElem_cons h, List.take_append_drop]
  have e2 : xs[i]?.getD 0 = xs[i]'h := by rw [List.getElem?_eq_getElem h]; rfl
  rw [e2]
  conv => lhs; rw [e]
  unfold lay4
  rw [List.flatMap_append, List.flatMap_cons]
theorem rdn_zb (s : Bool) (xs : List Nat) (r : List UInt8) (hk : ok32 xs) : ∀ n, n ≤ xs.length → rdn (zbytes s xs ++ r) n = xs.take n
  | 0, _ => by simp [rdn]
  | n + 1, h => by
    show rdn (zbytes s xs ++ r) n ++ [u4 (zbytes s xs ++ r) (2 + 4 * n)] = _
    rw [rdn_zb s xs r hk n (by omega)]
    have hn : n < xs.length := by omega
    have hx : xs[n]?.getD 0 < 4294967296 := by rw [List.getElem?_eq_getElem hn]; exact hk _ (List.getElem_mem hn)
    have e : zbytes s xs ++ r = (UInt8.ofNat (headN s xs.length / 256) :: UInt8.ofNat (headN s xs.length) :: lay4 (xs.take n)) ++ (d4 (xs[n]?.getD 0) ++ (lay4 (xs.drop (n + 1)) ++ r)) := by
      unfold zbytes
      rw [lay4_split xs n hn]
      simp
    rw [e, u4_mid _ _ hx (by simp [lay4_len]; omega), List.getElem?_eq_getElem hn]
    simp only [Option.getD_some]
    rw [List.take_append_getElem]
theorem tk_zb (m : Int) (r : List UInt8) (h : (digs m.natAbs).length ≤ 400) : tkOk (zb m ++ r) ∧ hd2 (zb m ++ r) / 2 = (digs m.natAbs).length ∧ rdn (zb m ++ r) (hd2 (zb m ++ r) / 2) = digs m.natAbs ∧ decide (hd2 (zb m ++ r) % 2 = 1) = decide (m < 0) ∧ (zb m ++ r).drop (2 + 4 * (hd2 (zb m ++ r) / 2)) = r := by
  unfold zb
  have hh := hd2_zb (decide (m < 0)) (digs m.natAbs) r (by omega)
  have hl := zbytes_len (decide (m < 0)) (digs m.natAbs)
  have hn : hd2 (zbytes (decide (m < 0)) (digs m.natAbs) ++ r) / 2 = (digs m.natAbs).length := by rw [hh]; unfold headN; split <;> omega
  have hs : decide (hd2 (zbytes (decide (m < 0)) (digs m.natAbs) ++ r) % 2 = 1) = decide (m < 0) := by
    rw [hh]; unfold headN
    by_cases h1 : m < 0
    · rw [decide_eq_true h1, if_pos rfl, decide_eq_true_eq]; omega
    · rw [decide_eq_false h1, if_neg (by simp), decide_eq_false_iff_not]; omega
  have hr := rdn_zb (decide (m < 0)) (digs m.natAbs) r (ok_digs _) _ (Nat.le_refl _)
  rw [List.take_length] at hr
  refine ⟨⟨?_, ?_, ?_, ?_⟩, hn, ?_, hs, ?_⟩
  · rw [List.length_append]; omega
  · rw [hn]; exact h
  · rw [hn, List.length_append]; omega
  · rw [hn, hs, hr]; exact zb_right m
  · rw [hn]; exact hr
  · rw [hn, ← hl, List.drop_append_of_le_length (Nat.le_refl _), List.drop_length, List.nil_append]
theorem right_num {neg : Bool} {ds : List Nat} (hk : ok32 ds) (h : rightB neg ds = true) : ∃ m : Int, digs m.natAbs = ds ∧ decide (m < 0) = neg := by
  refine ⟨sg neg (val ds), ?_⟩
  have ha : (sg neg (val ds)).natAbs = val ds := by unfold sg; cases neg <;> simp
  rw [ha]
  have hd : digs (val ds) = ds := digs_val hk fun x hx => by
    have e : ds.getLast? = ds[ds.length - 1]? := List.getLast?_eq_getElem?
    rw [e] at hx
    have hl : ds.length ≠ 0 := fun h0 => by rw [List.getElem?_eq_none (by omega)] at hx; cases hx
    unfold rightB at h
    rw [if_neg hl, decide_eq_true_eq, hx] at h
    exact h
  refine ⟨hd, ?_⟩
  by_cases hl : ds.length = 0
  · unfold rightB at h
    rw [if_pos hl] at h
    have : neg = false := by simpa using h
    subst this
    unfold sg; simp
  · have h0 : val ds ≠ 0 := fun e => by rw [e, digs_zero] at hd; rw [← hd] at hl; exact hl rfl
    unfold sg
    cases neg
    · simp
    · simp; omega
theorem tk_inv {l : List UInt8} (h : tkOk l) : ∃ m r, (digs m.natAbs).length ≤ 400 ∧ l = zb m ++ r := by
  obtain ⟨h2, h4, h5, h6⟩ := h
  obtain ⟨m, e1, e2⟩ := right_num (rdn_ok l _) h6
  refine ⟨m, l.drop (2 + 4 * (hd2 l / 2)), by rw [e1, rdn_len]; exact h4, ?_⟩
  unfold zb
  rw [e1, e2, zb_take rfl rfl h5, List.take_append_drop]
/-- What zint.Take answers. -/
def Zt (m : Int) (t : ByteArray) (k : Int) (w : World) (e : Ending) (w' : World) : Prop := ∃ A c, e = .returned (.tuple #[.agg #[.bool (decide (m < 0)), .slice A (digs m.natAbs).length c], .string t, .int .i64 k]) ∧ Dg w' A c (digs m.natAbs) ∧ Below w.heap.size w w'
theorem bytes_of {t : ByteArray} {l : List UInt8} (h : t.data.toList = l) : (⟨l.toArray⟩ : ByteArray) = t := by subst h; rfl
theorem ztk_yes {b t : ByteArray} {m : Int} (hb : b.data.toList = zb m ++ t.data.toList) (hl : (digs m.natAbs).length ≤ 400) (hm : b.data.toList.length ≤ 9223372036854775807) (w : World) :
    Calls Tryd.prog 21 #[.string b] w fun e w' => Zt m t 0 w e w' := by
  have hk := tk_zb m t.data.toList hl
  rw [← hb] at hk
  obtain ⟨k1, k2, k3, k4, k5⟩ := hk
  refine (ztake_any b w _ rfl hm).mono ?_
  rintro e w' ⟨hB, _, h5⟩
  obtain ⟨A, c, he, hd⟩ := h5 k1
  rw [k3] at hd
  rw [k4, k5, k2] at he
  exact ⟨A, c, he, hd, hB⟩
theorem ztk_no {b : ByteArray} (hm : b.data.toList.length ≤ 9223372036854775807) (h : ¬ ∃ m r, (digs m.natAbs).length ≤ 400 ∧ b.data.toList = zb m ++ r) (w : World) :
    Calls Tryd.prog 21 #[.string b] w fun e w' => Zt 0 ⟨#[]⟩ 2 w e w' := by
  refine (ztake_any b w _ rfl hm).mono ?_
  rintro e w' ⟨hB, h4, _⟩
  refine ⟨none, 0, ?_, ?_, hB⟩
  · rw [h4 (fun hk => h (tk_inv hk))]
    show _ = Ending.returned (.tuple #[.agg #[.bool false, .slice none (digs 0).length 0], .string ⟨#[]⟩, .int .i64 2])
    rw [digs_zero]; rfl
  · show Dg w' none 0 (digs 0)
    rw [digs_zero]; exact Dg.nil_ _ _
theorem zby_yes {A : Option Addr} {c : Nat} {m : Int} {t : ByteArray} (hl : (digs m.natAbs).length ≤ 400) (ht : t.data.toList = zb m) (w : World) (h : Dg w A c (digs m.natAbs)) :
    Calls Tryd.prog 18 #[.agg #[.bool (decide (m < 0)), .slice A (digs m.natAbs).length c]] w fun e w' => e = .returned (.tuple #[.string t, .int .i64 0]) ∧ Below w.heap.size w w' := by
  have := zbytes_any A c (decide (m < 0)) (digs m.natAbs) w h hl (zb_right m)
  have e : (⟨(zbytes (decide (m < 0)) (digs m.natAbs)).toArray⟩ : ByteArray) = t := bytes_of ht
  rw [e] at this; exact this
theorem zsm_yes {A : Option Addr} {c : Nat} {m q : Int} {ok : Bool} (hl : (digs m.natAbs).length ≤ 1000000) (hq : smallz m = q) (hok : smallb m = ok) (w : World) (h : Dg w A c (digs m.natAbs)) :
    Calls Tryd.prog 22 #[.agg #[.bool (decide (m < 0)), .slice A (digs m.natAbs).length c]] w fun e w' => e = .returned (.tuple #[.int .i64 q, .bool ok]) ∧ Below w.heap.size w w' :=
  zsmall_any A c (decide (m < 0)) (digs m.natAbs) w h hl q ok (by rw [sg_dz]; exact hq) (by rw [sg_dz]; exact hok)
end Go.Proofs.YtcfoepogbfngmaaDoor
end

section
/-
  dyad.beside.
-/
namespace Go.Proofs.YtcfoepogbfngmaaDoor
open Go.RowKit
set_option linter.unusedSimpArgs false
set_option linter.unusedVariables false
def Ybs (p q e0 : Int) (w : World) (e : Ending) (w' : World) : Prop := ∃ A c B d, e = .returned (.tuple #[.agg #[.bool (decide (p < 0)), .slice A (digs p.natAbs).length c], .agg #[.bool (decide (q < 0)), .slice B (digs q.natAbs).length d], .int .i64 e0]) ∧ Dg w' A c (digs p.natAbs) ∧ Dg w' B d (digs q.natAbs) ∧ Below w.heap.size w w'

theorem upto_abs (m e g : Int) : (upto m e g).natAbs = m.natAbs * 2 ^ (e - g).toNat := by unfold upto; rw [Int.natAbs_mul, Int.natAbs_pow]; rfl
theorem upto_neg (m e g : Int) : decide (upto m e g < 0) = decide (m < 0) := by
  unfold upto
  have hp : (0 : Int) < 2 ^ (e - g).toNat := Int.pow_pos (by omega)
  rw [decide_eq_decide]
  constructor
  · intro h
    rcases Int.lt_or_le m 0 with h1 | h1
    · exact h1
    · have := Int.mul_nonneg h1 (Int.le_of_lt hp); omega
  · intro h
    have := Int.mul_le_mul_of_nonneg_right (a := m) (b := -1) (by omega) (Int.le_of_lt hp)
    omega
theorem upto_self (m e : Int) : upto m e e = m := by unfold upto; rw [Int.sub_self]; exact Int.mul_one m
theorem lift_z {A : Option Addr} {c : Nat} {m q x e0 : Int} {w : World} (h : Dg w A c (digs m.natAbs)) (hl : (digs m.natAbs).length ≤ 400000) (h0 : e0 ≤ x) (h1 : x - e0 ≤ 1000000) (hq : upto m x e0 = q) :
    Calls Tryd.prog 33 #[.slice A (digs m.natAbs).length c, .int .i64 (x - e0)] w fun e w' => ∃ A' c', e = .returned (.slice A' (digs q.natAbs).length c') ∧ Dg w' A' c' (digs q.natAbs) ∧ Below w.heap.size w w' := by
  have := lift_any A c (digs m.natAbs) (x - e0).toNat w h (by omega) (by omega)
  rw [val_digs, ← upto_abs, hq, show (((x - e0).toNat : Nat) : Int) = x - e0 by omega] at this
  exact this

end Go.Proofs.YtcfoepogbfngmaaDoor
end

section
/-
  dyad.against, Cmp.
-/
namespace Go.Proofs.YtcfoepogbfngmaaDoor
open Go.RowKit
set_option linter.unusedSimpArgs false
set_option linter.unusedVariables false
theorem cmp_b {A B : Option Addr} {c d x y : Nat} {q : Int} {w : World} (h : Dg w A c (digs x)) (h' : Dg w B d (digs y)) (hl : (digs x).length ≤ 1000000) (hl' : (digs y).length ≤ 1000000) (hq : cmpi x y = q) :
    Calls Tryd.prog 47 #[.slice A (digs x).length c, .slice B (digs y).length d] w fun e w' => e = .returned (.int .i64 q) ∧ Below w.heap.size w w' := by
  have := cmp_any A B c d (digs x) (digs y) w h h' (by omega) (by omega)
  rw [val_digs, val_digs, hq] at this
  exact this.mono fun e w' ⟨he, n, hw⟩ => ⟨he, by rw [hw]; exact below_drewN (Below.refl _ _) _⟩
theorem bits_b {A : Option Addr} {c x : Nat} {z : Int} {w : World} (h : Dg w A c (digs x)) (hl : (digs x).length ≤ 1000000) (hz : (blen x : Int) = z) :
    Calls Tryd.prog 27 #[.slice A (digs x).length c] w fun e w' => e = .returned (.int .i64 z) ∧ w = w' := by
  have := bits_any A c (digs x) w h (by omega)
  rw [val_digs, hz] at this; exact this
theorem bl_bd {m : Int} {k : Nat} (h : (digs m.natAbs).length ≤ k) : blen m.natAbs ≤ 32 * k := by
  refine blen_le ?_
  have := val_lt (ok_digs m.natAbs)
  rw [val_digs] at this
  refine Nat.lt_of_lt_of_le this ?_
  rw [show (4294967296 : Nat) = 2 ^ 32 from rfl, ← Nat.pow_mul]
  exact Nat.pow_le_pow_right (by omega) (by omega)
theorem len_bl (m : Int) : (digs m.natAbs).length ≤ bl m / 32 + 1 := by
  refine digs_len_lt ?_
  by_cases h : m.natAbs = 0
  · rw [h]; exact Nat.pow_pos (by omega)
  · have ⟨_, b, _⟩ := blen_bd m.natAbs h
    refine Nat.lt_of_lt_of_le b ?_
    rw [show (4294967296 : Nat) = 2 ^ 32 from rfl, ← Nat.pow_mul]
    refine Nat.pow_le_pow_right (by omega) ?_
    unfold bl; omega
/-- Cmp of two numbers without their signs. -/
def agq (m x n y : Int) : Int := if x + bl m < y + bl n then -1 else if y + bl n < x + bl m then 1 else cmpi (upto m x (min x y)).natAbs (upto n y (min x y)).natAbs
theorem agq_bd (m x n y : Int) : -1 ≤ agq m x n y ∧ agq m x n y ≤ 1 := by
  unfold agq
  have := cmpi_three (upto m x (min x y)).natAbs (upto n y (min x y)).natAbs
  split
  · omega
  · split <;> omega
theorem agq_pos {m x n y : Int} (hm : 0 < m) (hn : 0 < n) : agq m x n y = cmpd (dv m x) (dv n y) := by
  unfold agq
  split
  · rename_i h; rw [cmpd_lt (cmpd_size hm hn h)]
  · split
    · rename_i h; rw [cmpd_gt (cmpd_size hn hm h)]
    · have hx : min x y ≤ x := by omega
      have hy : min x y ≤ y := by omega
      generalize min x y = g at *
      rw [← dv_upto (m := m) hx, ← dv_upto (m := n) hy, cmpd_same]
      have e1 : 0 ≤ upto m x g := Int.mul_nonneg (by omega) (Int.le_of_lt (Int.pow_pos (by omega)))
      have e2 : 0 ≤ upto n y g := Int.mul_nonneg (by omega) (Int.le_of_lt (Int.pow_pos (by omega)))
      rcases cmpi_three (upto m x g).natAbs (upto n y g).natAbs with ⟨h, k⟩ | ⟨h, k⟩ | ⟨h, k⟩
      · rw [k, if_pos (by omega)]
      · rw [k, if_neg (by omega), if_neg (by omega)]
      · rw [k, if_neg (by omega), if_pos (by omega)]
theorem agq_abs (m x n y : Int) : agq m x n y = agq (m.natAbs : Int) x (n.natAbs : Int) y := by
  unfold agq bl
  rw [upto_abs, upto_abs, upto_abs, upto_abs]
  simp only [Int.natAbs_natCast]
theorem cmp_same {m x n y : Int} (h : Int.sign m = Int.sign n) (hx : Nf m x) (hy : Nf n y) : Int.sign m * agq m x n y = cmpd (dv m x) (dv n y) := by
  have e1 := sign_three m
  have e2 := sign_three n
  rcases e1 with ⟨a, b⟩ | ⟨a, b⟩ | ⟨a, b⟩
  · have hn : n < 0 := by omega
    rw [b, agq_abs, agq_pos (by omega) (by omega)]
    have f1 : dv (m.natAbs : Int) x = -dv m x := by rw [← dv_neg]; congr 1; omega
    have f2 : dv (n.natAbs : Int) y = -dv n y := by rw [← dv_neg]; congr 1; omega
    rw [f1, f2, cmpd_neg]; omega
  · have hn : n = 0 := by omega
    rw [b, Int.zero_mul, a, hn, dv_zero, dv_zero, cmpd_eq rfl]
  · rw [b, Int.one_mul, agq_pos a (by omega)]
theorem cmp_less {m x n y : Int} (h : Int.sign m < Int.sign n) : cmpd (dv m x) (dv n y) = -1 := by
  have e1 := sign_three m
  have e2 := sign_three n
  refine cmpd_lt ?_
  by_cases hm : m < 0
  · have h1 := dv_neg0 (e := x) |>.2 hm
    have h2 : 0 ≤ dv n y := dv_nonneg.2 (by omega)
    exact rlt_le h1 h2
  · have h1 : dv m x = 0 := dv_eq0.2 (by omega)
    rw [h1]; exact dv_pos.2 (by omega)
theorem cmp_more {m x n y : Int} (h : Int.sign n < Int.sign m) : cmpd (dv m x) (dv n y) = 1 := by
  have := cmp_less (m := n) (x := y) (n := m) (y := x) h
  rw [cmpd_swap, this]; rfl

theorem upto_len {m x e0 : Int} (hl : (digs m.natAbs).length ≤ 400000) (h : x - e0 ≤ 1000000) : (digs (upto m x e0).natAbs).length ≤ 1000000 := by
  have h1 := bl_bd hl
  have h2 := len_bl (upto m x e0)
  have h3 : bl (upto m x e0) ≤ 12800000 + 1000000 := by
    unfold bl
    by_cases h0 : m.natAbs = 0
    · rw [upto_abs, h0, Nat.zero_mul, blen_zero]; omega
    · rw [upto_abs, blen_up h0]; omega
  omega

end Go.Proofs.YtcfoepogbfngmaaDoor
end

section
/-
  dyad.Add.
-/
namespace Go.Proofs.YtcfoepogbfngmaaDoor
open Go.RowKit
set_option linter.unusedSimpArgs false
set_option linter.unusedVariables false
theorem upto_len2 {m x e0 : Int} (hl : (digs m.natAbs).length ≤ 10000) (h : x - e0 ≤ 262144) : (digs (upto m x e0).natAbs).length ≤ 20000 := by
  have h1 := bl_bd hl
  have h2 := len_bl (upto m x e0)
  have h3 : bl (upto m x e0) ≤ 320000 + 262144 := by
    unfold bl
    by_cases h0 : m.natAbs = 0
    · rw [upto_abs, h0, Nat.zero_mul, blen_zero]; omega
    · rw [upto_abs, blen_up h0]; omega
  omega
theorem odd_d {A : Option Addr} {c : Nat} {z y M E : Int} {w : World} (h : Dg w A c (digs z.natAbs)) (hl : (digs z.natAbs).length ≤ 500000) (hT : T32 w) (hy0 : -1000000000 ≤ y) (hy1 : y ≤ 1000000000) (hM : nm z = M) (hE : nx z y = E) :
    Calls Tryd.prog 30 #[.agg #[.bool (decide (z < 0)), .slice A (digs z.natAbs).length c], .int .i64 y] w fun e w' => Yr M E w e w' :=
  odd_any A c (decide (z < 0)) z.natAbs y M E w h hl hT ⟨hy0, hy1⟩ (by rw [sg_abs2]; exact hM) (by rw [sg_abs2]; exact hE)
theorem answer_d {A : Option Addr} {c g : Nat} {M E : Int} {w : World} (hc : w.cell? ⟨g, 0, none⟩ = some (.int .i64 0)) (hg : g < w.heap.size) (h : Dg w A c (digs M.natAbs)) (hl : (digs M.natAbs).length ≤ 1000000) (hq : inR M E = true) :
    Calls Tryd.prog 28 #[.pointer (some ⟨g, 0, none⟩), .agg #[.bool (decide (M < 0)), .slice A (digs M.natAbs).length c, .int .i64 E]] w fun e w' => Ye M E 0 w e w' :=
  (answer_yes g A c (decide (M < 0)) M E w hc hg h hl hq).mono fun e w' ⟨he, hd, hb⟩ => ⟨A, (digs M.natAbs).length, he, hd, hb⟩
theorem isz_d {A : Option Addr} {c : Nat} {m x : Int} {q : Bool} {w : World} (hq : decide (m = 0) = q) :
    Calls Tryd.prog 31 #[.agg #[.bool (decide (m < 0)), .slice A (digs m.natAbs).length c, .int .i64 x]] w fun e w' => e = .returned (.bool q) ∧ Below w.heap.size w w' :=
  isZero_any A _ c _ x w q (by
    rw [← hq, Bool.eq_iff_iff]
    simp only [beq_iff_eq, decide_eq_true_eq]
    constructor
    · intro h
      have : (digs m.natAbs).length = 0 := by omega
      have := digs_nil.1 this; omega
    · rintro rfl
      show (((digs 0).length : Nat) : Int) = 0
      rw [digs_zero]; rfl)
theorem inr_len {M E : Int} (h : inR M E = true) : (digs M.natAbs).length ≤ 10000 := by
  have h2 := len_bl M
  unfold inR at h
  rw [decide_eq_true_eq] at h
  rcases h with h | h
  · subst h; show (digs 0).length ≤ 10000; rw [digs_zero]; simp
  · omega

theorem rt_neg {m x : Int} (h : Rt m x) : Rt (-m) x := ⟨by rcases h.1 with h1 | h1; exact .inl (by omega); exact .inr (by omega), h.2⟩
end Go.Proofs.YtcfoepogbfngmaaDoor
end

section
/-
  dyad.Bytes.
-/
namespace Go.Proofs.YtcfoepogbfngmaaDoor
open Go.RowKit
set_option linter.unusedSimpArgs false
set_option linter.unusedVariables false
set_option maxHeartbeats 4000000 in
set_option maxRecDepth 100000 in
theorem dbytes_yes (A : Option Addr) (c : Nat) (m x : Int) (t : ByteArray) (w : World) (h : Dg w A c (digs m.natAbs)) (hl : (digs m.natAbs).length ≤ 400) (r1 : Rt m x) (hq : inR m x = true) (ht : t.data.toList = zb m ++ zb x):
    Calls Tryd.prog 6 #[.agg #[.bool (decide (m < 0)), .slice A (digs m.natAbs).length c, .int .i64 x]] w fun e w' => e = .returned (.tuple #[.string t, .int .i64 0]) ∧ Below w.heap.size w w' := by
  have HR1 := Lib.hid r1
  have lx := Lib.hid hl
  have HQ := Lib.hid hq
  have x0 := r1.2.1
  have x1 := r1.2.2
  obtain ⟨t1, ht1⟩ : ∃ t : ByteArray, t.data.toList = zb m := ⟨⟨(zb m).toArray⟩, rfl⟩
  obtain ⟨t2, ht2⟩ : ∃ t : ByteArray, t.data.toList = zb x := ⟨⟨(zb x).toArray⟩, rfl⟩
  have HS := Lib.hid (show t1 ++ t2 = t by apply ByteArray.ext; apply Array.toList_inj.1; rw [ht, ← ht1, ← ht2]; simp [ByteArray.data_append])
  have HSZ := Lib.hid (show ¬ 9223372036854775807 < t1.size + t2.size by
    have e1 : t1.size = t1.data.toList.length := by simp
    have e2 : t2.size = t2.data.toList.length := by simp
    have l1 := zbytes_len (decide (m < 0)) (digs m.natAbs)
    have l2 := zbytes_len (decide (x < 0)) (digs x.natAbs)
    have l3 : (digs x.natAbs).length ≤ 2 := digs_small (by omega)
    rw [e1, e2, ht1, ht2]; unfold zb; omega)
  have ZM := Lib.hid (fun W A c hW => zby_yes (A := A) (c := c) hl ht1 W hW)
  have lx2 : (digs x.natAbs).length ≤ 2 := digs_small (by omega)
  have ZX := Lib.hid (fun W A c hW => zby_yes (A := A) (c := c) (Nat.le_trans lx2 (by omega)) ht2 W hW)
  have FX := Lib.hid (fun W => zfrom_any x W (by omega) (by omega))
  have L0 := Lib.hid ((live_start w).add h)
  clear h hl r1 hq ht ht1 ht2 lx2 x0 x1
  go_enter Tryd.func6, Tryd.ntmps6
  go_wp2_with fail
  obtain ⟨v1, hW⟩ : ∃ W : World, W = ((w.alloc (.cells #[.bool (decide (m < 0)), .slice A (digs m.natAbs).length c, .int .i64 x] 26)).alloc (.cells #[.bool (decide (m < 0)), .slice A (digs m.natAbs).length c, .int .i64 x] 26)) := ⟨_, rfl⟩
  rw [← hW]
  have hb : Below w.heap.size w v1 := by rw [hW]; exact (((Below.refl _ _).alloc (by simp <;> omega) _).alloc (by simp <;> omega) _)
  have L1 := Lib.hid (L0.out.step hb)
  have Rx_1 := Lib.hid (show v1.heap[w.heap.size]? = some (.cells #[.bool (decide (m < 0)), .slice A (digs m.natAbs).length c, .int .i64 x] 26 (0, 0)) by rw [hW]; have := heap_alloc_new w (.cells #[.bool (decide (m < 0)), .slice A (digs m.natAbs).length c, .int .i64 x] 26); rw [heap_alloc_old _ _ (by simp <;> omega)]; simpa using this)
  have Gx : w.heap.size ≤ w.heap.size := by have := L0.out.1.size; omega
  have Rsl_1 := Lib.hid (show v1.heap[w.heap.size + 1]? = some (.cells #[.bool (decide (m < 0)), .slice A (digs m.natAbs).length c, .int .i64 x] 26 (0, 0)) by rw [hW]; have := heap_alloc_new (w.alloc (.cells #[.bool (decide (m < 0)), .slice A (digs m.natAbs).length c, .int .i64 x] 26)) (.cells #[.bool (decide (m < 0)), .slice A (digs m.natAbs).length c, .int .i64 x] 26); simpa using this)
  have Gsl : w.heap.size ≤ w.heap.size + 1 := by have := L0.out.1.size; omega
  have Nxsl : w.heap.size < w.heap.size + 1 := by omega
  clear hW hb
  refine (begin_1 Rsl_1.out (L1.out.get (A := A) (c := c) (xs := digs m.natAbs) (by simp)) (dyR_num HR1.out) (Nat.le_trans lx.out (by omega)) (k := 0) rfl).mono ?_
  rintro e w2 ⟨rfl, hb⟩
  have L2 := Lib.hid (L1.out.step hb)
  have Rx_2 := Lib.hid (cells_of Rx_1.out hb)
  have Rsl_2 := Lib.hid (cells_of Rsl_1.out hb)
  clear hb 
  have fx0 := row_c (i := 0) Rx_2.out rfl
  have zx0 := frozen_of_row _ _ 0 _ _ Rx_2.out
  have fx1 := row_c (i := 1) Rx_2.out rfl
  have zx1 := frozen_of_row _ _ 1 _ _ Rx_2.out
  have fx2 := row_c (i := 2) Rx_2.out rfl
  have zx2 := frozen_of_row _ _ 2 _ _ Rx_2.out
  have xx := heap_lt Rx_2.out
  go_wp2_with fail
  obtain ⟨w3, hW⟩ : ∃ W : World, W = (w2.alloc (.cells #[.int .i64 0] 48)) := ⟨_, rfl⟩
  rw [← hW]
  have hb : Below w2.heap.size w2 w3 := by rw [hW]; exact ((Below.refl _ _).alloc (by simp <;> omega) _)
  have L3 := Lib.hid (L2.out.step hb)
  have Rx_3 := Lib.hid (cells_of Rx_2.out hb)
  have Rsl_3 := Lib.hid (cells_of Rsl_2.out hb)
  have Rk_3 := Lib.hid (show w3.heap[w2.heap.size]? = some (.cells #[.int .i64 0] 48 (0, 0)) by rw [hW]; have := heap_alloc_new w2 (.cells #[.int .i64 0] 48); simpa using this)
  have Gk : w.heap.size ≤ w2.heap.size := by have := L2.out.1.size; omega
  have Nxk : w.heap.size < w2.heap.size := by have := heap_lt Rx_2.out; omega
  have Nslk : w.heap.size + 1 < w2.heap.size := by have := heap_lt Rsl_2.out; omega
  clear hW hb
  clear fx0 zx0 fx1 zx1 fx2 zx2 xx
  refine (inRange_any A c (decide (m < 0)) m x _ (L3.out.get (A := A) (c := c) (xs := digs m.natAbs) (by simp)) true HQ.out (Nat.le_trans lx.out (by omega))).mono ?_
  rintro e w4 ⟨rfl, hb⟩
  have L4 := Lib.hid (L3.out.step hb)
  have Rx_4 := Lib.hid (cells_of Rx_3.out hb)
  have Rsl_4 := Lib.hid (cells_of Rsl_3.out hb)
  have Rk_4 := Lib.hid (cells_of Rk_3.out hb)
  clear hb 
  go_wp2_with fail
  refine (tell_no _ 0 4 false _ (row_c Rk_4.out (i := 0) rfl) (.inl rfl)).mono ?_
  rintro e w5 ⟨rfl, rfl⟩
  have fx0 := row_c (i := 0) Rx_4.out rfl
  have zx0 := frozen_of_row _ _ 0 _ _ Rx_4.out
  have fx1 := row_c (i := 1) Rx_4.out rfl
  have zx1 := frozen_of_row _ _ 1 _ _ Rx_4.out
  have fx2 := row_c (i := 2) Rx_4.out rfl
  have zx2 := frozen_of_row _ _ 2 _ _ Rx_4.out
  have xx := heap_lt Rx_4.out
  go_wp2_with fail
  refine (ZM.out _ _ _ (L4.out.get (A := A) (c := c) (xs := digs m.natAbs) (by simp))).mono ?_
  rintro e w6 ⟨rfl, hb⟩
  have L6 := Lib.hid (L4.out.step hb)
  clear fx0 zx0 fx1 zx1 fx2 zx2 xx
  have Rx_6 := Lib.hid (cells_of Rx_4.out hb)
  have Rsl_6 := Lib.hid (cells_of Rsl_4.out hb)
  have Rk_6 := Lib.hid (cells_of Rk_4.out hb)
  clear hb 
  go_wp2_with fail
  refine (tell_no _ 0 0 false _ (row_c Rk_6.out (i := 0) rfl) (.inl rfl)).mono ?_
  rintro e w7 ⟨rfl, rfl⟩
  have fx0 := row_c (i := 0) Rx_6.out rfl
  have zx0 := frozen_of_row _ _ 0 _ _ Rx_6.out
  have fx1 := row_c (i := 1) Rx_6.out rfl
  have zx1 := frozen_of_row _ _ 1 _ _ Rx_6.out
  have fx2 := row_c (i := 2) Rx_6.out rfl
  have zx2 := frozen_of_row _ _ 2 _ _ Rx_6.out
  have xx := heap_lt Rx_6.out
  go_wp2_with fail
  refine (FX.out _).mono ?_
  rintro e w8 ⟨A8, c8, rfl, hd, hb⟩
  have L8 := Lib.hid ((L6.out.step hb).add hd)
  clear fx0 zx0 fx1 zx1 fx2 zx2 xx
  have Rx_8 := Lib.hid (cells_of Rx_6.out hb)
  have Rsl_8 := Lib.hid (cells_of Rsl_6.out hb)
  have Rk_8 := Lib.hid (cells_of Rk_6.out hb)
  clear hb hd
  go_wp2_with fail
  refine (ZX.out _ _ _ (L8.out.get (A := A8) (c := c8) (xs := digs x.natAbs) (by simp))).mono ?_
  rintro e w9 ⟨rfl, hb⟩
  have L9 := Lib.hid (L8.out.step hb)
  have Rx_9 := Lib.hid (cells_of Rx_8.out hb)
  have Rsl_9 := Lib.hid (cells_of Rsl_8.out hb)
  have Rk_9 := Lib.hid (cells_of Rk_8.out hb)
  clear hb 
  go_wp2_with fail
  refine (tell_no _ 0 0 false _ (row_c Rk_9.out (i := 0) rfl) (.inl rfl)).mono ?_
  rintro e w10 ⟨rfl, rfl⟩
  go_wp2_with fail
  refine (fails_any _ 0 false _ (row_c Rk_9.out (i := 0) rfl) rfl).mono ?_
  rintro e w11 ⟨rfl, rfl⟩
  have hsz := HSZ.out
  go_wp2
  go_ret2
  exact ⟨by rw [HS.out]; rfl, L9.out.1⟩
end Go.Proofs.YtcfoepogbfngmaaDoor
end

section
/-
  dyad.Take.
-/
namespace Go.Proofs.YtcfoepogbfngmaaDoor
open Go.RowKit
set_option linter.unusedSimpArgs false
set_option linter.unusedVariables false
set_option maxHeartbeats 4000000 in
set_option maxRecDepth 100000 in
theorem dtk_a (b t1 t2 : ByteArray) (m n q : Int) (w : World) (T1 : ∀ W, Calls Tryd.prog 21 #[.string b] W fun e w' => Zt m t1 2 W e w') (T2 : ∀ W, Calls Tryd.prog 21 #[.string t1] W fun e w' => Zt n t2 2 W e w') (hl : (digs m.natAbs).length ≤ 400) (hn : (digs n.natAbs).length ≤ 400) (hq : smallz n = q) (hok : smallb n = true) (hR : dyR (decide (m < 0)) (digs m.natAbs) q = false):
    Calls Tryd.prog 7 #[.string b] w fun e w' => e = .returned (.tuple #[.agg #[.bool false, .slice none 0 0, .int .i64 0], .string ⟨#[]⟩, .int .i64 2]) ∧ Below w.heap.size w w' := by
  have HT1 := Lib.hid T1
  have HT2 := Lib.hid T2
  have lx := Lib.hid hl
  have ly := Lib.hid hn
  have SM := Lib.hid (fun W A c hW => zsm_yes (A := A) (c := c) (Nat.le_trans hn (by omega)) hq hok W hW)
  have HR := Lib.hid hR
  have L0 := Lib.hid (live_start w)
  clear T1 T2 hl hn hq hok hR
  go_enter Tryd.func7, Tryd.ntmps7
  go_wp2_with fail
  obtain ⟨v1, hW⟩ : ∃ W : World, W = ((w.alloc (.cells #[.bool false, .slice none 0 0, .int .i64 0] 26)).alloc (.cells #[.int .i64 0] 48)) := ⟨_, rfl⟩
  rw [← hW]
  have hb : Below w.heap.size w v1 := by rw [hW]; exact (((Below.refl _ _).alloc (by simp <;> omega) _).alloc (by simp <;> omega) _)
  have L1 := Lib.hid (L0.out.step hb)
  have Rr_1 := Lib.hid (show v1.heap[w.heap.size]? = some (.cells #[.bool false, .slice none 0 0, .int .i64 0] 26 (0, 0)) by rw [hW]; have := heap_alloc_new w (.cells #[.bool false, .slice none 0 0, .int .i64 0] 26); rw [heap_alloc_old _ _ (by simp <;> omega)]; simpa using this)
  have Gr : w.heap.size ≤ w.heap.size := by have := L0.out.1.size; omega
  have Rk_1 := Lib.hid (show v1.heap[w.heap.size + 1]? = some (.cells #[.int .i64 0] 48 (0, 0)) by rw [hW]; have := heap_alloc_new (w.alloc (.cells #[.bool false, .slice none 0 0, .int .i64 0] 26)) (.cells #[.int .i64 0] 48); simpa using this)
  have Gk : w.heap.size ≤ w.heap.size + 1 := by have := L0.out.1.size; omega
  have Nrk : w.heap.size < w.heap.size + 1 := by omega
  clear hW hb
  refine (HT1.out _).mono ?_
  rintro e w2 ⟨A2, c2, rfl, hd, hb⟩
  have L2 := Lib.hid ((L1.out.step hb).add hd)
  have Rr_2 := Lib.hid (cells_of Rr_1.out hb)
  have Rk_2 := Lib.hid (cells_of Rk_1.out hb)
  clear hb hd
  go_wp2_with fail
  obtain ⟨w3, hW⟩ : ∃ W : World, W = (w2.alloc (.cells #[.bool (decide (m < 0)), .slice A2 (digs m.natAbs).length c2] 24)) := ⟨_, rfl⟩
  rw [← hW]
  have hb : Below w2.heap.size w2 w3 := by rw [hW]; exact ((Below.refl _ _).alloc (by simp <;> omega) _)
  have L3 := Lib.hid (L2.out.step hb)
  have Rr_3 := Lib.hid (cells_of Rr_2.out hb)
  have Rk_3 := Lib.hid (cells_of Rk_2.out hb)
  have Ra_3 := Lib.hid (show w3.heap[w2.heap.size]? = some (.cells #[.bool (decide (m < 0)), .slice A2 (digs m.natAbs).length c2] 24 (0, 0)) by rw [hW]; have := heap_alloc_new w2 (.cells #[.bool (decide (m < 0)), .slice A2 (digs m.natAbs).length c2] 24); simpa using this)
  have Ga : w.heap.size ≤ w2.heap.size := by have := L2.out.1.size; omega
  have Nra : w.heap.size < w2.heap.size := by have := heap_lt Rr_2.out; omega
  have Nka : w.heap.size + 1 < w2.heap.size := by have := heap_lt Rk_2.out; omega
  clear hW hb
  refine (tell_yes _ 2 _ (row_c Rk_3.out (i := 0) rfl) (frozen_of_row _ _ 0 _ _ Rk_3.out)).mono ?_
  rintro e w4 ⟨rfl, rfl⟩
  obtain ⟨w5, hW⟩ : ∃ W : World, W = (w3.setCell ⟨w.heap.size + 1, 0, none⟩ (.int .i64 2)) := ⟨_, rfl⟩
  rw [← hW]
  have hO : Only (w.heap.size + 1) w3 w5 := by rw [hW]; exact ((Only.refl (w.heap.size + 1) w3).setCell 0 _)
  have L5 := Lib.hid (live_only L3.out hO Rk_3.out noint_re Gk)
  have Rr_5 := Lib.hid ((hO.block _ (by omega)).trans Rr_3.out)
  have Ra_5 := Lib.hid ((hO.block _ (by omega)).trans Ra_3.out)
  have Rk_5 := Lib.hid (show w5.heap[w.heap.size + 1]? = some (.cells #[.int .i64 2] 48 (0, 0)) by rw [hW]; exact (heap_setCell_same _ _ 0 _ _ _ Rk_3.out))
  clear hW hO
  go_wp2_with fail
  refine (HT2.out _).mono ?_
  rintro e w6 ⟨A6, c6, rfl, hd, hb⟩
  have L6 := Lib.hid ((L5.out.step hb).add hd)
  have Rr_6 := Lib.hid (cells_of Rr_5.out hb)
  have Rk_6 := Lib.hid (cells_of Rk_5.out hb)
  have Ra_6 := Lib.hid (cells_of Ra_5.out hb)
  clear hb hd
  go_wp2_with fail
  obtain ⟨w7, hW⟩ : ∃ W : World, W = (w6.alloc (.cells #[.bool (decide (n < 0)), .slice A6 (digs n.natAbs).length c6] 24)) := ⟨_, rfl⟩
  rw [← hW]
  have hb : Below w6.heap.size w6 w7 := by rw [hW]; exact ((Below.refl _ _).alloc (by simp <;> omega) _)
  have L7 := Lib.hid (L6.out.step hb)
  have Rr_7 := Lib.hid (cells_of Rr_6.out hb)
  have Rk_7 := Lib.hid (cells_of Rk_6.out hb)
  have Ra_7 := Lib.hid (cells_of Ra_6.out hb)
  have Rc_7 := Lib.hid (show w7.heap[w6.heap.size]? = some (.cells #[.bool (decide (n < 0)), .slice A6 (digs n.natAbs).length c6] 24 (0, 0)) by rw [hW]; have := heap_alloc_new w6 (.cells #[.bool (decide (n < 0)), .slice A6 (digs n.natAbs).length c6] 24); simpa using this)
  have Gc : w.heap.size ≤ w6.heap.size := by have := L6.out.1.size; omega
  have Nrc : w.heap.size < w6.heap.size := by have := heap_lt Rr_6.out; omega
  have Nkc : w.heap.size + 1 < w6.heap.size := by have := heap_lt Rk_6.out; omega
  have Nac : w2.heap.size < w6.heap.size := by have := heap_lt Ra_6.out; omega
  clear hW hb
  refine (tell_no _ 2 2 true _ (row_c Rk_7.out (i := 0) rfl) (.inr rfl)).mono ?_
  rintro e w8 ⟨rfl, rfl⟩
  have fc0 := row_c (i := 0) Rc_7.out rfl
  have zc0 := frozen_of_row _ _ 0 _ _ Rc_7.out
  have fc1 := row_c (i := 1) Rc_7.out rfl
  have zc1 := frozen_of_row _ _ 1 _ _ Rc_7.out
  have xc := heap_lt Rc_7.out
  go_wp2_with fail
  refine (SM.out _ _ _ (L7.out.get (A := A6) (c := c6) (xs := digs n.natAbs) (by simp))).mono ?_
  rintro e w9 ⟨rfl, hb⟩
  have L9 := Lib.hid (L7.out.step hb)
  clear fc0 zc0 fc1 zc1 xc
  have Rr_9 := Lib.hid (cells_of Rr_7.out hb)
  have Rk_9 := Lib.hid (cells_of Rk_7.out hb)
  have Ra_9 := Lib.hid (cells_of Ra_7.out hb)
  have Rc_9 := Lib.hid (cells_of Rc_7.out hb)
  clear hb 
  have fa0 := row_c (i := 0) Ra_9.out rfl
  have za0 := frozen_of_row _ _ 0 _ _ Ra_9.out
  have fa1 := row_c (i := 1) Ra_9.out rfl
  have za1 := frozen_of_row _ _ 1 _ _ Ra_9.out
  have xa := heap_lt Ra_9.out
  have fr0 := row_c (i := 0) Rr_9.out rfl
  have zr0 := frozen_of_row _ _ 0 _ _ Rr_9.out
  have fr1 := row_c (i := 1) Rr_9.out rfl
  have zr1 := frozen_of_row _ _ 1 _ _ Rr_9.out
  have fr2 := row_c (i := 2) Rr_9.out rfl
  have zr2 := frozen_of_row _ _ 2 _ _ Rr_9.out
  have xr := heap_lt Rr_9.out
  go_wp2_with fail
  obtain ⟨w10, hW⟩ : ∃ W : World, W = (((w9.setCell ⟨w.heap.size, 0, none⟩ (.bool (decide (m < 0)))).setCell ⟨w.heap.size, 1, none⟩ (.slice A2 (digs m.natAbs).length c2)).setCell ⟨w.heap.size, 2, none⟩ (.int .i64 q)) := ⟨_, rfl⟩
  rw [← hW]
  have hO : Only (w.heap.size) w9 w10 := by rw [hW]; exact ((((Only.refl (w.heap.size) w9).setCell 0 _).setCell 1 _).setCell 2 _)
  have L10 := Lib.hid (live_only L9.out hO Rr_9.out noint_dy Gr)
  have Rk_10 := Lib.hid ((hO.block _ (by omega)).trans Rk_9.out)
  have Ra_10 := Lib.hid ((hO.block _ (by omega)).trans Ra_9.out)
  have Rc_10 := Lib.hid ((hO.block _ (by omega)).trans Rc_9.out)
  have Rr_10 := Lib.hid (show w10.heap[w.heap.size]? = some (.cells #[.bool (decide (m < 0)), .slice A2 (digs m.natAbs).length c2, .int .i64 q] 26 (0, 0)) by rw [hW]; exact (heap_setCell_same _ _ 2 _ _ _ (heap_setCell_same _ _ 1 _ _ _ (heap_setCell_same _ _ 0 _ _ _ Rr_9.out))))
  clear hW hO
  clear fa0 za0 fa1 za1 xa fr0 zr0 fr1 zr1 fr2 zr2 xr
  have fr0 := row_c (i := 0) Rr_10.out rfl
  have zr0 := frozen_of_row _ _ 0 _ _ Rr_10.out
  have fr1 := row_c (i := 1) Rr_10.out rfl
  have zr1 := frozen_of_row _ _ 1 _ _ Rr_10.out
  have fr2 := row_c (i := 2) Rr_10.out rfl
  have zr2 := frozen_of_row _ _ 2 _ _ Rr_10.out
  have xr := heap_lt Rr_10.out
  go_wp2_with fail
  refine (dright_any A2 c2 (decide (m < 0)) (digs m.natAbs) q _ (L10.out.get (A := A2) (c := c2) (xs := digs m.natAbs) (by simp)) false HR.out (Nat.le_trans lx.out (by omega))).mono ?_
  rintro e w11 ⟨rfl, hb⟩
  have L11 := Lib.hid (L10.out.step hb)
  clear fr0 zr0 fr1 zr1 fr2 zr2 xr
  have Rr_11 := Lib.hid (cells_of Rr_10.out hb)
  have Rk_11 := Lib.hid (cells_of Rk_10.out hb)
  have Ra_11 := Lib.hid (cells_of Ra_10.out hb)
  have Rc_11 := Lib.hid (cells_of Rc_10.out hb)
  clear hb 
  go_wp2_with fail
  refine (tell_no _ 2 2 true _ (row_c Rk_11.out (i := 0) rfl) (.inr rfl)).mono ?_
  rintro e w12 ⟨rfl, rfl⟩
  go_wp2_with fail
  refine (fails_any _ 2 true _ (row_c Rk_11.out (i := 0) rfl) rfl).mono ?_
  rintro e w13 ⟨rfl, rfl⟩
  have fk0 := row_c (i := 0) Rk_11.out rfl
  have zk0 := frozen_of_row _ _ 0 _ _ Rk_11.out
  have xk := heap_lt Rk_11.out
  have fr0 := row_c (i := 0) Rr_11.out rfl
  have zr0 := frozen_of_row _ _ 0 _ _ Rr_11.out
  have fr1 := row_c (i := 1) Rr_11.out rfl
  have zr1 := frozen_of_row _ _ 1 _ _ Rr_11.out
  have fr2 := row_c (i := 2) Rr_11.out rfl
  have zr2 := frozen_of_row _ _ 2 _ _ Rr_11.out
  have xr := heap_lt Rr_11.out
  go_wp2_with fail
  go_region
  go_wp2
  clear fk0 zk0 xk fr0 zr0 fr1 zr1 fr2 zr2 xr
  obtain ⟨w14, hW⟩ : ∃ W : World, W = (((w11.setCell ⟨w.heap.size, 0, none⟩ (.bool false)).setCell ⟨w.heap.size, 1, none⟩ (.slice none 0 0)).setCell ⟨w.heap.size, 2, none⟩ (.int .i64 0)) := ⟨_, rfl⟩
  rw [← hW]
  have hO : Only (w.heap.size) w11 w14 := by rw [hW]; exact ((((Only.refl (w.heap.size) w11).setCell 0 _).setCell 1 _).setCell 2 _)
  have L14 := Lib.hid (live_only L11.out hO Rr_11.out noint_dy Gr)
  have Rk_14 := Lib.hid ((hO.block _ (by omega)).trans Rk_11.out)
  have Ra_14 := Lib.hid ((hO.block _ (by omega)).trans Ra_11.out)
  have Rc_14 := Lib.hid ((hO.block _ (by omega)).trans Rc_11.out)
  have Rr_14 := Lib.hid (show w14.heap[w.heap.size]? = some (.cells #[.bool false, .slice none 0 0, .int .i64 0] 26 (0, 0)) by rw [hW]; exact (heap_setCell_same _ _ 2 _ _ _ (heap_setCell_same _ _ 1 _ _ _ (heap_setCell_same _ _ 0 _ _ _ Rr_11.out))))
  clear hW hO
  obtain ⟨w15, hW⟩ : ∃ W : World, W = w14.drew := ⟨_, rfl⟩
  rw [← hW]
  have hb : Below w14.heap.size w14 w15 := by rw [hW]; exact bd0 _
  have L15 := Lib.hid (L14.out.step hb)
  have Rr_15 := Lib.hid (cells_of Rr_14.out hb)
  have Rk_15 := Lib.hid (cells_of Rk_14.out hb)
  have Ra_15 := Lib.hid (cells_of Ra_14.out hb)
  have Rc_15 := Lib.hid (cells_of Rc_14.out hb)
  clear hW hb
  have fr0 := row_c (i := 0) Rr_15.out rfl
  have zr0 := frozen_of_row _ _ 0 _ _ Rr_15.out
  have fr1 := row_c (i := 1) Rr_15.out rfl
  have zr1 := frozen_of_row _ _ 1 _ _ Rr_15.out
  have fr2 := row_c (i := 2) Rr_15.out rfl
  have zr2 := frozen_of_row _ _ 2 _ _ Rr_15.out
  have xr := heap_lt Rr_15.out
  refine bodyPost_ret (v := .tuple #[.agg #[.bool false, .slice none 0 0, .int .i64 0], .string ⟨#[]⟩, .int .i64 2]) (by simp [results, Tryd.results7, go_sem, fr0, fr1, fr2]) rfl ?_
  
  exact ⟨rfl, L15.out.1⟩

set_option maxHeartbeats 4000000 in
set_option maxRecDepth 100000 in
theorem dtk_b (b t1 t2 : ByteArray) (m n q : Int) (bI : Bool) (w : World) (T1 : ∀ W, Calls Tryd.prog 21 #[.string b] W fun e w' => Zt m t1 2 W e w') (T2 : ∀ W, Calls Tryd.prog 21 #[.string t1] W fun e w' => Zt n t2 2 W e w') (hl : (digs m.natAbs).length ≤ 400) (hn : (digs n.natAbs).length ≤ 400) (hq : smallz n = q) (hok : smallb n = true) (hR : dyR (decide (m < 0)) (digs m.natAbs) q = true) (hI : inR m q = bI):
    Calls Tryd.prog 7 #[.string b] w fun e w' => e = .returned (.tuple #[.agg #[.bool false, .slice none 0 0, .int .i64 0], .string ⟨#[]⟩, .int .i64 2]) ∧ Below w.heap.size w w' := by
  have HT1 := Lib.hid T1
  have HT2 := Lib.hid T2
  have lx := Lib.hid hl
  have ly := Lib.hid hn
  have SM := Lib.hid (fun W A c hW => zsm_yes (A := A) (c := c) (Nat.le_trans hn (by omega)) hq hok W hW)
  have HR := Lib.hid hR
  have HI := Lib.hid hI
  have L0 := Lib.hid (live_start w)
  clear T1 T2 hl hn hq hok hR hI
  go_enter Tryd.func7, Tryd.ntmps7
  go_wp2_with fail
  obtain ⟨v1, hW⟩ : ∃ W : World, W = ((w.alloc (.cells #[.bool false, .slice none 0 0, .int .i64 0] 26)).alloc (.cells #[.int .i64 0] 48)) := ⟨_, rfl⟩
  rw [← hW]
  have hb : Below w.heap.size w v1 := by rw [hW]; exact (((Below.refl _ _).alloc (by simp <;> omega) _).alloc (by simp <;> omega) _)
  have L1 := Lib.hid (L0.out.step hb)
  have Rr_1 := Lib.hid (show v1.heap[w.heap.size]? = some (.cells #[.bool false, .slice none 0 0, .int .i64 0] 26 (0, 0)) by rw [hW]; have := heap_alloc_new w (.cells #[.bool false, .slice none 0 0, .int .i64 0] 26); rw [heap_alloc_old _ _ (by simp <;> omega)]; simpa using this)
  have Gr : w.heap.size ≤ w.heap.size := by have := L0.out.1.size; omega
  have Rk_1 := Lib.hid (show v1.heap[w.heap.size + 1]? = some (.cells #[.int .i64 0] 48 (0, 0)) by rw [hW]; have := heap_alloc_new (w.alloc (.cells #[.bool false, .slice none 0 0, .int .i64 0] 26)) (.cells #[.int .i64 0] 48); simpa using this)
  have Gk : w.heap.size ≤ w.heap.size + 1 := by have := L0.out.1.size; omega
  have Nrk : w.heap.size < w.heap.size + 1 := by omega
  clear hW hb
  refine (HT1.out _).mono ?_
  rintro e w2 ⟨A2, c2, rfl, hd, hb⟩
  have L2 := Lib.hid ((L1.out.step hb).add hd)
  have Rr_2 := Lib.hid (cells_of Rr_1.out hb)
  have Rk_2 := Lib.hid (cells_of Rk_1.out hb)
  clear hb hd
  go_wp2_with fail
  obtain ⟨w3, hW⟩ : ∃ W : World, W = (w2.alloc (.cells #[.bool (decide (m < 0)), .slice A2 (digs m.natAbs).length c2] 24)) := ⟨_, rfl⟩
  rw [← hW]
  have hb : Below w2.heap.size w2 w3 := by rw [hW]; exact ((Below.refl _ _).alloc (by simp <;> omega) _)
  have L3 := Lib.hid (L2.out.step hb)
  have Rr_3 := Lib.hid (cells_of Rr_2.out hb)
  have Rk_3 := Lib.hid (cells_of Rk_2.out hb)
  have Ra_3 := Lib.hid (show w3.heap[w2.heap.size]? = some (.cells #[.bool (decide (m < 0)), .slice A2 (digs m.natAbs).length c2] 24 (0, 0)) by rw [hW]; have := heap_alloc_new w2 (.cells #[.bool (decide (m < 0)), .slice A2 (digs m.natAbs).length c2] 24); simpa using this)
  have Ga : w.heap.size ≤ w2.heap.size := by have := L2.out.1.size; omega
  have Nra : w.heap.size < w2.heap.size := by have := heap_lt Rr_2.out; omega
  have Nka : w.heap.size + 1 < w2.heap.size := by have := heap_lt Rk_2.out; omega
  clear hW hb
  refine (tell_yes _ 2 _ (row_c Rk_3.out (i := 0) rfl) (frozen_of_row _ _ 0 _ _ Rk_3.out)).mono ?_
  rintro e w4 ⟨rfl, rfl⟩
  obtain ⟨w5, hW⟩ : ∃ W : World, W = (w3.setCell ⟨w.heap.size + 1, 0, none⟩ (.int .i64 2)) := ⟨_, rfl⟩
  rw [← hW]
  have hO : Only (w.heap.size + 1) w3 w5 := by rw [hW]; exact ((Only.refl (w.heap.size + 1) w3).setCell 0 _)
  have L5 := Lib.hid (live_only L3.out hO Rk_3.out noint_re Gk)
  have Rr_5 := Lib.hid ((hO.block _ (by omega)).trans Rr_3.out)
  have Ra_5 := Lib.hid ((hO.block _ (by omega)).trans Ra_3.out)
  have Rk_5 := Lib.hid (show w5.heap[w.heap.size + 1]? = some (.cells #[.int .i64 2] 48 (0, 0)) by rw [hW]; exact (heap_setCell_same _ _ 0 _ _ _ Rk_3.out))
  clear hW hO
  go_wp2_with fail
  refine (HT2.out _).mono ?_
  rintro e w6 ⟨A6, c6, rfl, hd, hb⟩
  have L6 := Lib.hid ((L5.out.step hb).add hd)
  have Rr_6 := Lib.hid (cells_of Rr_5.out hb)
  have Rk_6 := Lib.hid (cells_of Rk_5.out hb)
  have Ra_6 := Lib.hid (cells_of Ra_5.out hb)
  clear hb hd
  go_wp2_with fail
  obtain ⟨w7, hW⟩ : ∃ W : World, W = (w6.alloc (.cells #[.bool (decide (n < 0)), .slice A6 (digs n.natAbs).length c6] 24)) := ⟨_, rfl⟩
  rw [← hW]
  have hb : Below w6.heap.size w6 w7 := by rw [hW]; exact ((Below.refl _ _).alloc (by simp <;> omega) _)
  have L7 := Lib.hid (L6.out.step hb)
  have Rr_7 := Lib.hid (cells_of Rr_6.out hb)
  have Rk_7 := Lib.hid (cells_of Rk_6.out hb)
  have Ra_7 := Lib.hid (cells_of Ra_6.out hb)
  have Rc_7 := Lib.hid (show w7.heap[w6.heap.size]? = some (.cells #[.bool (decide (n < 0)), .slice A6 (digs n.natAbs).length c6] 24 (0, 0)) by rw [hW]; have := heap_alloc_new w6 (.cells #[.bool (decide (n < 0)), .slice A6 (digs n.natAbs).length c6] 24); simpa using this)
  have Gc : w.heap.size ≤ w6.heap.size := by have := L6.out.1.size; omega
  have Nrc : w.heap.size < w6.heap.size := by have := heap_lt Rr_6.out; omega
  have Nkc : w.heap.size + 1 < w6.heap.size := by have := heap_lt Rk_6.out; omega
  have Nac : w2.heap.size < w6.heap.size := by have := heap_lt Ra_6.out; omega
  clear hW hb
  refine (tell_no _ 2 2 true _ (row_c Rk_7.out (i := 0) rfl) (.inr rfl)).mono ?_
  rintro e w8 ⟨rfl, rfl⟩
  have fc0 := row_c (i := 0) Rc_7.out rfl
  have zc0 := frozen_of_row _ _ 0 _ _ Rc_7.out
  have fc1 := row_c (i := 1) Rc_7.out rfl
  have zc1 := frozen_of_row _ _ 1 _ _ Rc_7.out
  have xc := heap_lt Rc_7.out
  go_wp2_with fail
  refine (SM.out _ _ _ (L7.out.get (A := A6) (c := c6) (xs := digs n.natAbs) (by simp))).mono ?_
  rintro e w9 ⟨rfl, hb⟩
  have L9 := Lib.hid (L7.out.step hb)
  clear fc0 zc0 fc1 zc1 xc
  have Rr_9 := Lib.hid (cells_of Rr_7.out hb)
  have Rk_9 := Lib.hid (cells_of Rk_7.out hb)
  have Ra_9 := Lib.hid (cells_of Ra_7.out hb)
  have Rc_9 := Lib.hid (cells_of Rc_7.out hb)
  clear hb 
  have fa0 := row_c (i := 0) Ra_9.out rfl
  have za0 := frozen_of_row _ _ 0 _ _ Ra_9.out
  have fa1 := row_c (i := 1) Ra_9.out rfl
  have za1 := frozen_of_row _ _ 1 _ _ Ra_9.out
  have xa := heap_lt Ra_9.out
  have fr0 := row_c (i := 0) Rr_9.out rfl
  have zr0 := frozen_of_row _ _ 0 _ _ Rr_9.out
  have fr1 := row_c (i := 1) Rr_9.out rfl
  have zr1 := frozen_of_row _ _ 1 _ _ Rr_9.out
  have fr2 := row_c (i := 2) Rr_9.out rfl
  have zr2 := frozen_of_row _ _ 2 _ _ Rr_9.out
  have xr := heap_lt Rr_9.out
  go_wp2_with fail
  obtain ⟨w10, hW⟩ : ∃ W : World, W = (((w9.setCell ⟨w.heap.size, 0, none⟩ (.bool (decide (m < 0)))).setCell ⟨w.heap.size, 1, none⟩ (.slice A2 (digs m.natAbs).length c2)).setCell ⟨w.heap.size, 2, none⟩ (.int .i64 q)) := ⟨_, rfl⟩
  rw [← hW]
  have hO : Only (w.heap.size) w9 w10 := by rw [hW]; exact ((((Only.refl (w.heap.size) w9).setCell 0 _).setCell 1 _).setCell 2 _)
  have L10 := Lib.hid (live_only L9.out hO Rr_9.out noint_dy Gr)
  have Rk_10 := Lib.hid ((hO.block _ (by omega)).trans Rk_9.out)
  have Ra_10 := Lib.hid ((hO.block _ (by omega)).trans Ra_9.out)
  have Rc_10 := Lib.hid ((hO.block _ (by omega)).trans Rc_9.out)
  have Rr_10 := Lib.hid (show w10.heap[w.heap.size]? = some (.cells #[.bool (decide (m < 0)), .slice A2 (digs m.natAbs).length c2, .int .i64 q] 26 (0, 0)) by rw [hW]; exact (heap_setCell_same _ _ 2 _ _ _ (heap_setCell_same _ _ 1 _ _ _ (heap_setCell_same _ _ 0 _ _ _ Rr_9.out))))
  clear hW hO
  clear fa0 za0 fa1 za1 xa fr0 zr0 fr1 zr1 fr2 zr2 xr
  have fr0 := row_c (i := 0) Rr_10.out rfl
  have zr0 := frozen_of_row _ _ 0 _ _ Rr_10.out
  have fr1 := row_c (i := 1) Rr_10.out rfl
  have zr1 := frozen_of_row _ _ 1 _ _ Rr_10.out
  have fr2 := row_c (i := 2) Rr_10.out rfl
  have zr2 := frozen_of_row _ _ 2 _ _ Rr_10.out
  have xr := heap_lt Rr_10.out
  go_wp2_with fail
  refine (dright_any A2 c2 (decide (m < 0)) (digs m.natAbs) q _ (L10.out.get (A := A2) (c := c2) (xs := digs m.natAbs) (by simp)) true HR.out (Nat.le_trans lx.out (by omega))).mono ?_
  rintro e w11 ⟨rfl, hb⟩
  have L11 := Lib.hid (L10.out.step hb)
  clear fr0 zr0 fr1 zr1 fr2 zr2 xr
  have Rr_11 := Lib.hid (cells_of Rr_10.out hb)
  have Rk_11 := Lib.hid (cells_of Rk_10.out hb)
  have Ra_11 := Lib.hid (cells_of Ra_10.out hb)
  have Rc_11 := Lib.hid (cells_of Rc_10.out hb)
  clear hb 
  have fr0 := row_c (i := 0) Rr_11.out rfl
  have zr0 := frozen_of_row _ _ 0 _ _ Rr_11.out
  have fr1 := row_c (i := 1) Rr_11.out rfl
  have zr1 := frozen_of_row _ _ 1 _ _ Rr_11.out
  have fr2 := row_c (i := 2) Rr_11.out rfl
  have zr2 := frozen_of_row _ _ 2 _ _ Rr_11.out
  have xr := heap_lt Rr_11.out
  go_wp2_with fail
  refine (inRange_any A2 c2 (decide (m < 0)) m q _ (L11.out.get (A := A2) (c := c2) (xs := digs m.natAbs) (by simp)) bI HI.out (Nat.le_trans lx.out (by omega))).mono ?_
  rintro e w12 ⟨rfl, hb⟩
  have L12 := Lib.hid (L11.out.step hb)
  clear fr0 zr0 fr1 zr1 fr2 zr2 xr
  have Rr_12 := Lib.hid (cells_of Rr_11.out hb)
  have Rk_12 := Lib.hid (cells_of Rk_11.out hb)
  have Ra_12 := Lib.hid (cells_of Ra_11.out hb)
  have Rc_12 := Lib.hid (cells_of Rc_11.out hb)
  clear hb 
  go_wp2_with fail
  refine (tell_no _ 2 2 (!bI) _ (row_c Rk_12.out (i := 0) rfl) (.inr rfl)).mono ?_
  rintro e w13 ⟨rfl, rfl⟩
  go_wp2_with fail
  refine (fails_any _ 2 true _ (row_c Rk_12.out (i := 0) rfl) rfl).mono ?_
  rintro e w14 ⟨rfl, rfl⟩
  have fk0 := row_c (i := 0) Rk_12.out rfl
  have zk0 := frozen_of_row _ _ 0 _ _ Rk_12.out
  have xk := heap_lt Rk_12.out
  have fr0 := row_c (i := 0) Rr_12.out rfl
  have zr0 := frozen_of_row _ _ 0 _ _ Rr_12.out
  have fr1 := row_c (i := 1) Rr_12.out rfl
  have zr1 := frozen_of_row _ _ 1 _ _ Rr_12.out
  have fr2 := row_c (i := 2) Rr_12.out rfl
  have zr2 := frozen_of_row _ _ 2 _ _ Rr_12.out
  have xr := heap_lt Rr_12.out
  go_wp2_with fail
  go_region
  go_wp2
  clear fk0 zk0 xk fr0 zr0 fr1 zr1 fr2 zr2 xr
  obtain ⟨w15, hW⟩ : ∃ W : World, W = (((w12.setCell ⟨w.heap.size, 0, none⟩ (.bool false)).setCell ⟨w.heap.size, 1, none⟩ (.slice none 0 0)).setCell ⟨w.heap.size, 2, none⟩ (.int .i64 0)) := ⟨_, rfl⟩
  rw [← hW]
  have hO : Only (w.heap.size) w12 w15 := by rw [hW]; exact ((((Only.refl (w.heap.size) w12).setCell 0 _).setCell 1 _).setCell 2 _)
  have L15 := Lib.hid (live_only L12.out hO Rr_12.out noint_dy Gr)
  have Rk_15 := Lib.hid ((hO.block _ (by omega)).trans Rk_12.out)
  have Ra_15 := Lib.hid ((hO.block _ (by omega)).trans Ra_12.out)
  have Rc_15 := Lib.hid ((hO.block _ (by omega)).trans Rc_12.out)
  have Rr_15 := Lib.hid (show w15.heap[w.heap.size]? = some (.cells #[.bool false, .slice none 0 0, .int .i64 0] 26 (0, 0)) by rw [hW]; exact (heap_setCell_same _ _ 2 _ _ _ (heap_setCell_same _ _ 1 _ _ _ (heap_setCell_same _ _ 0 _ _ _ Rr_12.out))))
  clear hW hO
  obtain ⟨w16, hW⟩ : ∃ W : World, W = w15.drew := ⟨_, rfl⟩
  rw [← hW]
  have hb : Below w15.heap.size w15 w16 := by rw [hW]; exact bd0 _
  have L16 := Lib.hid (L15.out.step hb)
  have Rr_16 := Lib.hid (cells_of Rr_15.out hb)
  have Rk_16 := Lib.hid (cells_of Rk_15.out hb)
  have Ra_16 := Lib.hid (cells_of Ra_15.out hb)
  have Rc_16 := Lib.hid (cells_of Rc_15.out hb)
  clear hW hb
  have fr0 := row_c (i := 0) Rr_16.out rfl
  have zr0 := frozen_of_row _ _ 0 _ _ Rr_16.out
  have fr1 := row_c (i := 1) Rr_16.out rfl
  have zr1 := frozen_of_row _ _ 1 _ _ Rr_16.out
  have fr2 := row_c (i := 2) Rr_16.out rfl
  have zr2 := frozen_of_row _ _ 2 _ _ Rr_16.out
  have xr := heap_lt Rr_16.out
  refine bodyPost_ret (v := .tuple #[.agg #[.bool false, .slice none 0 0, .int .i64 0], .string ⟨#[]⟩, .int .i64 2]) (by simp [results, Tryd.results7, go_sem, fr0, fr1, fr2]) rfl ?_
  
  exact ⟨rfl, L16.out.1⟩

set_option maxHeartbeats 4000000 in
set_option maxRecDepth 100000 in
theorem dtk_c (b t1 t2 : ByteArray) (m n q : Int) (w : World) (T1 : ∀ W, Calls Tryd.prog 21 #[.string b] W fun e w' => Zt m t1 0 W e w') (T2 : ∀ W, Calls Tryd.prog 21 #[.string t1] W fun e w' => Zt n t2 2 W e w') (hl : (digs m.natAbs).length ≤ 400) (hn : (digs n.natAbs).length ≤ 400) (hq : smallz n = q) (hok : smallb n = true) (hR : dyR (decide (m < 0)) (digs m.natAbs) q = false):
    Calls Tryd.prog 7 #[.string b] w fun e w' => e = .returned (.tuple #[.agg #[.bool false, .slice none 0 0, .int .i64 0], .string ⟨#[]⟩, .int .i64 2]) ∧ Below w.heap.size w w' := by
  have HT1 := Lib.hid T1
  have HT2 := Lib.hid T2
  have lx := Lib.hid hl
  have ly := Lib.hid hn
  have SM := Lib.hid (fun W A c hW => zsm_yes (A := A) (c := c) (Nat.le_trans hn (by omega)) hq hok W hW)
  have HR := Lib.hid hR
  have L0 := Lib.hid (live_start w)
  clear T1 T2 hl hn hq hok hR
  go_enter Tryd.func7, Tryd.ntmps7
  go_wp2_with fail
  obtain ⟨v1, hW⟩ : ∃ W : World, W = ((w.alloc (.cells #[.bool false, .slice none 0 0, .int .i64 0] 26)).alloc (.cells #[.int .i64 0] 48)) := ⟨_, rfl⟩
  rw [← hW]
  have hb : Below w.heap.size w v1 := by rw [hW]; exact (((Below.refl _ _).alloc (by simp <;> omega) _).alloc (by simp <;> omega) _)
  have L1 := Lib.hid (L0.out.step hb)
  have Rr_1 := Lib.hid (show v1.heap[w.heap.size]? = some (.cells #[.bool false, .slice none 0 0, .int .i64 0] 26 (0, 0)) by rw [hW]; have := heap_alloc_new w (.cells #[.bool false, .slice none 0 0, .int .i64 0] 26); rw [heap_alloc_old _ _ (by simp <;> omega)]; simpa using this)
  have Gr : w.heap.size ≤ w.heap.size := by have := L0.out.1.size; omega
  have Rk_1 := Lib.hid (show v1.heap[w.heap.size + 1]? = some (.cells #[.int .i64 0] 48 (0, 0)) by rw [hW]; have := heap_alloc_new (w.alloc (.cells #[.bool false, .slice none 0 0, .int .i64 0] 26)) (.cells #[.int .i64 0] 48); simpa using this)
  have Gk : w.heap.size ≤ w.heap.size + 1 := by have := L0.out.1.size; omega
  have Nrk : w.heap.size < w.heap.size + 1 := by omega
  clear hW hb
  refine (HT1.out _).mono ?_
  rintro e w2 ⟨A2, c2, rfl, hd, hb⟩
  have L2 := Lib.hid ((L1.out.step hb).add hd)
  have Rr_2 := Lib.hid (cells_of Rr_1.out hb)
  have Rk_2 := Lib.hid (cells_of Rk_1.out hb)
  clear hb hd
  go_wp2_with fail
  obtain ⟨w3, hW⟩ : ∃ W : World, W = (w2.alloc (.cells #[.bool (decide (m < 0)), .slice A2 (digs m.natAbs).length c2] 24)) := ⟨_, rfl⟩
  rw [← hW]
  have hb : Below w2.heap.size w2 w3 := by rw [hW]; exact ((Below.refl _ _).alloc (by simp <;> omega) _)
  have L3 := Lib.hid (L2.out.step hb)
  have Rr_3 := Lib.hid (cells_of Rr_2.out hb)
  have Rk_3 := Lib.hid (cells_of Rk_2.out hb)
  have Ra_3 := Lib.hid (show w3.heap[w2.heap.size]? = some (.cells #[.bool (decide (m < 0)), .slice A2 (digs m.natAbs).length c2] 24 (0, 0)) by rw [hW]; have := heap_alloc_new w2 (.cells #[.bool (decide (m < 0)), .slice A2 (digs m.natAbs).length c2] 24); simpa using this)
  have Ga : w.heap.size ≤ w2.heap.size := by have := L2.out.1.size; omega
  have Nra : w.heap.size < w2.heap.size := by have := heap_lt Rr_2.out; omega
  have Nka : w.heap.size + 1 < w2.heap.size := by have := heap_lt Rk_2.out; omega
  clear hW hb
  refine (tell_no _ 0 0 false _ (row_c Rk_3.out (i := 0) rfl) (.inl rfl)).mono ?_
  rintro e w4 ⟨rfl, rfl⟩
  go_wp2_with fail
  refine (HT2.out _).mono ?_
  rintro e w5 ⟨A5, c5, rfl, hd, hb⟩
  have L5 := Lib.hid ((L3.out.step hb).add hd)
  have Rr_5 := Lib.hid (cells_of Rr_3.out hb)
  have Rk_5 := Lib.hid (cells_of Rk_3.out hb)
  have Ra_5 := Lib.hid (cells_of Ra_3.out hb)
  clear hb hd
  go_wp2_with fail
  obtain ⟨w6, hW⟩ : ∃ W : World, W = (w5.alloc (.cells #[.bool (decide (n < 0)), .slice A5 (digs n.natAbs).length c5] 24)) := ⟨_, rfl⟩
  rw [← hW]
  have hb : Below w5.heap.size w5 w6 := by rw [hW]; exact ((Below.refl _ _).alloc (by simp <;> omega) _)
  have L6 := Lib.hid (L5.out.step hb)
  have Rr_6 := Lib.hid (cells_of Rr_5.out hb)
  have Rk_6 := Lib.hid (cells_of Rk_5.out hb)
  have Ra_6 := Lib.hid (cells_of Ra_5.out hb)
  have Rc_6 := Lib.hid (show w6.heap[w5.heap.size]? = some (.cells #[.bool (decide (n < 0)), .slice A5 (digs n.natAbs).length c5] 24 (0, 0)) by rw [hW]; have := heap_alloc_new w5 (.cells #[.bool (decide (n < 0)), .slice A5 (digs n.natAbs).length c5] 24); simpa using this)
  have Gc : w.heap.size ≤ w5.heap.size := by have := L5.out.1.size; omega
  have Nrc : w.heap.size < w5.heap.size := by have := heap_lt Rr_5.out; omega
  have Nkc : w.heap.size + 1 < w5.heap.size := by have := heap_lt Rk_5.out; omega
  have Nac : w2.heap.size < w5.heap.size := by have := heap_lt Ra_5.out; omega
  clear hW hb
  refine (tell_yes _ 2 _ (row_c Rk_6.out (i := 0) rfl) (frozen_of_row _ _ 0 _ _ Rk_6.out)).mono ?_
  rintro e w7 ⟨rfl, rfl⟩
  obtain ⟨w8, hW⟩ : ∃ W : World, W = (w6.setCell ⟨w.heap.size + 1, 0, none⟩ (.int .i64 2)) := ⟨_, rfl⟩
  rw [← hW]
  have hO : Only (w.heap.size + 1) w6 w8 := by rw [hW]; exact ((Only.refl (w.heap.size + 1) w6).setCell 0 _)
  have L8 := Lib.hid (live_only L6.out hO Rk_6.out noint_re Gk)
  have Rr_8 := Lib.hid ((hO.block _ (by omega)).trans Rr_6.out)
  have Ra_8 := Lib.hid ((hO.block _ (by omega)).trans Ra_6.out)
  have Rc_8 := Lib.hid ((hO.block _ (by omega)).trans Rc_6.out)
  have Rk_8 := Lib.hid (show w8.heap[w.heap.size + 1]? = some (.cells #[.int .i64 2] 48 (0, 0)) by rw [hW]; exact (heap_setCell_same _ _ 0 _ _ _ Rk_6.out))
  clear hW hO
  have fc0 := row_c (i := 0) Rc_8.out rfl
  have zc0 := frozen_of_row _ _ 0 _ _ Rc_8.out
  have fc1 := row_c (i := 1) Rc_8.out rfl
  have zc1 := frozen_of_row _ _ 1 _ _ Rc_8.out
  have xc := heap_lt Rc_8.out
  go_wp2_with fail
  refine (SM.out _ _ _ (L8.out.get (A := A5) (c := c5) (xs := digs n.natAbs) (by simp))).mono ?_
  rintro e w9 ⟨rfl, hb⟩
  have L9 := Lib.hid (L8.out.step hb)
  clear fc0 zc0 fc1 zc1 xc
  have Rr_9 := Lib.hid (cells_of Rr_8.out hb)
  have Rk_9 := Lib.hid (cells_of Rk_8.out hb)
  have Ra_9 := Lib.hid (cells_of Ra_8.out hb)
  have Rc_9 := Lib.hid (cells_of Rc_8.out hb)
  clear hb 
  have fa0 := row_c (i := 0) Ra_9.out rfl
  have za0 := frozen_of_row _ _ 0 _ _ Ra_9.out
  have fa1 := row_c (i := 1) Ra_9.out rfl
  have za1 := frozen_of_row _ _ 1 _ _ Ra_9.out
  have xa := heap_lt Ra_9.out
  have fr0 := row_c (i := 0) Rr_9.out rfl
  have zr0 := frozen_of_row _ _ 0 _ _ Rr_9.out
  have fr1 := row_c (i := 1) Rr_9.out rfl
  have zr1 := frozen_of_row _ _ 1 _ _ Rr_9.out
  have fr2 := row_c (i := 2) Rr_9.out rfl
  have zr2 := frozen_of_row _ _ 2 _ _ Rr_9.out
  have xr := heap_lt Rr_9.out
  go_wp2_with fail
  obtain ⟨w10, hW⟩ : ∃ W : World, W = (((w9.setCell ⟨w.heap.size, 0, none⟩ (.bool (decide (m < 0)))).setCell ⟨w.heap.size, 1, none⟩ (.slice A2 (digs m.natAbs).length c2)).setCell ⟨w.heap.size, 2, none⟩ (.int .i64 q)) := ⟨_, rfl⟩
  rw [← hW]
  have hO : Only (w.heap.size) w9 w10 := by rw [hW]; exact ((((Only.refl (w.heap.size) w9).setCell 0 _).setCell 1 _).setCell 2 _)
  have L10 := Lib.hid (live_only L9.out hO Rr_9.out noint_dy Gr)
  have Rk_10 := Lib.hid ((hO.block _ (by omega)).trans Rk_9.out)
  have Ra_10 := Lib.hid ((hO.block _ (by omega)).trans Ra_9.out)
  have Rc_10 := Lib.hid ((hO.block _ (by omega)).trans Rc_9.out)
  have Rr_10 := Lib.hid (show w10.heap[w.heap.size]? = some (.cells #[.bool (decide (m < 0)), .slice A2 (digs m.natAbs).length c2, .int .i64 q] 26 (0, 0)) by rw [hW]; exact (heap_setCell_same _ _ 2 _ _ _ (heap_setCell_same _ _ 1 _ _ _ (heap_setCell_same _ _ 0 _ _ _ Rr_9.out))))
  clear hW hO
  clear fa0 za0 fa1 za1 xa fr0 zr0 fr1 zr1 fr2 zr2 xr
  have fr0 := row_c (i := 0) Rr_10.out rfl
  have zr0 := frozen_of_row _ _ 0 _ _ Rr_10.out
  have fr1 := row_c (i := 1) Rr_10.out rfl
  have zr1 := frozen_of_row _ _ 1 _ _ Rr_10.out
  have fr2 := row_c (i := 2) Rr_10.out rfl
  have zr2 := frozen_of_row _ _ 2 _ _ Rr_10.out
  have xr := heap_lt Rr_10.out
  go_wp2_with fail
  refine (dright_any A2 c2 (decide (m < 0)) (digs m.natAbs) q _ (L10.out.get (A := A2) (c := c2) (xs := digs m.natAbs) (by simp)) false HR.out (Nat.le_trans lx.out (by omega))).mono ?_
  rintro e w11 ⟨rfl, hb⟩
  have L11 := Lib.hid (L10.out.step hb)
  clear fr0 zr0 fr1 zr1 fr2 zr2 xr
  have Rr_11 := Lib.hid (cells_of Rr_10.out hb)
  have Rk_11 := Lib.hid (cells_of Rk_10.out hb)
  have Ra_11 := Lib.hid (cells_of Ra_10.out hb)
  have Rc_11 := Lib.hid (cells_of Rc_10.out hb)
  clear hb 
  go_wp2_with fail
  refine (tell_no _ 2 2 true _ (row_c Rk_11.out (i := 0) rfl) (.inr rfl)).mono ?_
  rintro e w12 ⟨rfl, rfl⟩
  go_wp2_with fail
  refine (fails_any _ 2 true _ (row_c Rk_11.out (i := 0) rfl) rfl).mono ?_
  rintro e w13 ⟨rfl, rfl⟩
  have fk0 := row_c (i := 0) Rk_11.out rfl
  have zk0 := frozen_of_row _ _ 0 _ _ Rk_11.out
  have xk := heap_lt Rk_11.out
  have fr0 := row_c (i := 0) Rr_11.out rfl
  have zr0 := frozen_of_row _ _ 0 _ _ Rr_11.out
  have fr1 := row_c (i := 1) Rr_11.out rfl
  have zr1 := frozen_of_row _ _ 1 _ _ Rr_11.out
  have fr2 := row_c (i := 2) Rr_11.out rfl
  have zr2 := frozen_of_row _ _ 2 _ _ Rr_11.out
  have xr := heap_lt Rr_11.out
  go_wp2_with fail
  go_region
  go_wp2
  clear fk0 zk0 xk fr0 zr0 fr1 zr1 fr2 zr2 xr
  obtain ⟨w14, hW⟩ : ∃ W : World, W = (((w11.setCell ⟨w.heap.size, 0, none⟩ (.bool false)).setCell ⟨w.heap.size, 1, none⟩ (.slice none 0 0)).setCell ⟨w.heap.size, 2, none⟩ (.int .i64 0)) := ⟨_, rfl⟩
  rw [← hW]
  have hO : Only (w.heap.size) w11 w14 := by rw [hW]; exact ((((Only.refl (w.heap.size) w11).setCell 0 _).setCell 1 _).setCell 2 _)
  have L14 := Lib.hid (live_only L11.out hO Rr_11.out noint_dy Gr)
  have Rk_14 := Lib.hid ((hO.block _ (by omega)).trans Rk_11.out)
  have Ra_14 := Lib.hid ((hO.block _ (by omega)).trans Ra_11.out)
  have Rc_14 := Lib.hid ((hO.block _ (by omega)).trans Rc_11.out)
  have Rr_14 := Lib.hid (show w14.heap[w.heap.size]? = some (.cells #[.bool false, .slice none 0 0, .int .i64 0] 26 (0, 0)) by rw [hW]; exact (heap_setCell_same _ _ 2 _ _ _ (heap_setCell_same _ _ 1 _ _ _ (heap_setCell_same _ _ 0 _ _ _ Rr_11.out))))
  clear hW hO
  obtain ⟨w15, hW⟩ : ∃ W : World, W = w14.drew := ⟨_, rfl⟩
  rw [← hW]
  have hb : Below w14.heap.size w14 w15 := by rw [hW]; exact bd0 _
  have L15 := Lib.hid (L14.out.step hb)
  have Rr_15 := Lib.hid (cells_of Rr_14.out hb)
  have Rk_15 := Lib.hid (cells_of Rk_14.out hb)
  have Ra_15 := Lib.hid (cells_of Ra_14.out hb)
  have Rc_15 := Lib.hid (cells_of Rc_14.out hb)
  clear hW hb
  have fr0 := row_c (i := 0) Rr_15.out rfl
  have zr0 := frozen_of_row _ _ 0 _ _ Rr_15.out
  have fr1 := row_c (i := 1) Rr_15.out rfl
  have zr1 := frozen_of_row _ _ 1 _ _ Rr_15.out
  have fr2 := row_c (i := 2) Rr_15.out rfl
  have zr2 := frozen_of_row _ _ 2 _ _ Rr_15.out
  have xr := heap_lt Rr_15.out
  refine bodyPost_ret (v := .tuple #[.agg #[.bool false, .slice none 0 0, .int .i64 0], .string ⟨#[]⟩, .int .i64 2]) (by simp [results, Tryd.results7, go_sem, fr0, fr1, fr2]) rfl ?_
  
  exact ⟨rfl, L15.out.1⟩

set_option maxHeartbeats 4000000 in
set_option maxRecDepth 100000 in
theorem dtk_d (b t1 t2 : ByteArray) (m n q : Int) (bI : Bool) (w : World) (T1 : ∀ W, Calls Tryd.prog 21 #[.string b] W fun e w' => Zt m t1 0 W e w') (T2 : ∀ W, Calls Tryd.prog 21 #[.string t1] W fun e w' => Zt n t2 2 W e w') (hl : (digs m.natAbs).length ≤ 400) (hn : (digs n.natAbs).length ≤ 400) (hq : smallz n = q) (hok : smallb n = true) (hR : dyR (decide (m < 0)) (digs m.natAbs) q = true) (hI : inR m q = bI):
    Calls Tryd.prog 7 #[.string b] w fun e w' => e = .returned (.tuple #[.agg #[.bool false, .slice none 0 0, .int .i64 0], .string ⟨#[]⟩, .int .i64 2]) ∧ Below w.heap.size w w' := by
  have HT1 := Lib.hid T1
  have HT2 := Lib.hid T2
  have lx := Lib.hid hl
  have ly := Lib.hid hn
  have SM := Lib.hid (fun W A c hW => zsm_yes (A := A) (c := c) (Nat.le_trans hn (by omega)) hq hok W hW)
  have HR := Lib.hid hR
  have HI := Lib.hid hI
  have L0 := Lib.hid (live_start w)
  clear T1 T2 hl hn hq hok hR hI
  go_enter Tryd.func7, Tryd.ntmps7
  go_wp2_with fail
  obtain ⟨v1, hW⟩ : ∃ W : World, W = ((w.alloc (.cells #[.bool false, .slice none 0 0, .int .i64 0] 26)).alloc (.cells #[.int .i64 0] 48)) := ⟨_, rfl⟩
  rw [← hW]
  have hb : Below w.heap.size w v1 := by rw [hW]; exact (((Below.refl _ _).alloc (by simp <;> omega) _).alloc (by simp <;> omega) _)
  have L1 := Lib.hid (L0.out.step hb)
  have Rr_1 := Lib.hid (show v1.heap[w.heap.size]? = some (.cells #[.bool false, .slice none 0 0, .int .i64 0] 26 (0, 0)) by rw [hW]; have := heap_alloc_new w (.cells #[.bool false, .slice none 0 0, .int .i64 0] 26); rw [heap_alloc_old _ _ (by simp <;> omega)]; simpa using this)
  have Gr : w.heap.size ≤ w.heap.size := by have := L0.out.1.size; omega
  have Rk_1 := Lib.hid (show v1.heap[w.heap.size + 1]? = some (.cells #[.int .i64 0] 48 (0, 0)) by rw [hW]; have := heap_alloc_new (w.alloc (.cells #[.bool false, .slice none 0 0, .int .i64 0] 26)) (.cells #[.int .i64 0] 48); simpa using this)
  have Gk : w.heap.size ≤ w.heap.size + 1 := by have := L0.out.1.size; omega
  have Nrk : w.heap.size < w.heap.size + 1 := by omega
  clear hW hb
  refine (HT1.out _).mono ?_
  rintro e w2 ⟨A2, c2, rfl, hd, hb⟩
  have L2 := Lib.hid ((L1.out.step hb).add hd)
  have Rr_2 := Lib.hid (cells_of Rr_1.out hb)
  have Rk_2 := Lib.hid (cells_of Rk_1.out hb)
  clear hb hd
  go_wp2_with fail
  obtain ⟨w3, hW⟩ : ∃ W : World, W = (w2.alloc (.cells #[.bool (decide (m < 0)), .slice A2 (digs m.natAbs).length c2] 24)) := ⟨_, rfl⟩
  rw [← hW]
  have hb : Below w2.heap.size w2 w3 := by rw [hW]; exact ((Below.refl _ _).alloc (by simp <;> omega) _)
  have L3 := Lib.hid (L2.out.step hb)
  have Rr_3 := Lib.hid (cells_of Rr_2.out hb)
  have Rk_3 := Lib.hid (cells_of Rk_2.out hb)
  have Ra_3 := Lib.hid (show w3.heap[w2.heap.size]? = some (.cells #[.bool (decide (m < 0)), .slice A2 (digs m.natAbs).length c2] 24 (0, 0)) by rw [hW]; have := heap_alloc_new w2 (.cells #[.bool (decide (m < 0)), .slice A2 (digs m.natAbs).length c2] 24); simpa using this)
  have Ga : w.heap.size ≤ w2.heap.size := by have := L2.out.1.size; omega
  have Nra : w.heap.size < w2.heap.size := by have := heap_lt Rr_2.out; omega
  have Nka : w.heap.size + 1 < w2.heap.size := by have := heap_lt Rk_2.out; omega
  clear hW hb
  refine (tell_no _ 0 0 false _ (row_c Rk_3.out (i := 0) rfl) (.inl rfl)).mono ?_
  rintro e w4 ⟨rfl, rfl⟩
  go_wp2_with fail
  refine (HT2.out _).mono ?_
  rintro e w5 ⟨A5, c5, rfl, hd, hb⟩
  have L5 := Lib.hid ((L3.out.step hb).add hd)
  have Rr_5 := Lib.hid (cells_of Rr_3.out hb)
  have Rk_5 := Lib.hid (cells_of Rk_3.out hb)
  have Ra_5 := Lib.hid (cells_of Ra_3.out hb)
  clear hb hd
  go_wp2_with fail
  obtain ⟨w6, hW⟩ : ∃ W : World, W = (w5.alloc (.cells #[.bool (decide (n < 0)), .slice A5 (digs n.natAbs).length c5] 24)) := ⟨_, rfl⟩
  rw [← hW]
  have hb : Below w5.heap.size w5 w6 := by rw [hW]; exact ((Below.refl _ _).alloc (by simp <;> omega) _)
  have L6 := Lib.hid (L5.out.step hb)
  have Rr_6 := Lib.hid (cells_of Rr_5.out hb)
  have Rk_6 := Lib.hid (cells_of Rk_5.out hb)
  have Ra_6 := Lib.hid (cells_of Ra_5.out hb)
  have Rc_6 := Lib.hid (show w6.heap[w5.heap.size]? = some (.cells #[.bool (decide (n < 0)), .slice A5 (digs n.natAbs).length c5] 24 (0, 0)) by rw [hW]; have := heap_alloc_new w5 (.cells #[.bool (decide (n < 0)), .slice A5 (digs n.natAbs).length c5] 24); simpa using this)
  have Gc : w.heap.size ≤ w5.heap.size := by have := L5.out.1.size; omega
  have Nrc : w.heap.size < w5.heap.size := by have := heap_lt Rr_5.out; omega
  have Nkc : w.heap.size + 1 < w5.heap.size := by have := heap_lt Rk_5.out; omega
  have Nac : w2.heap.size < w5.heap.size := by have := heap_lt Ra_5.out; omega
  clear hW hb
  refine (tell_yes _ 2 _ (row_c Rk_6.out (i := 0) rfl) (frozen_of_row _ _ 0 _ _ Rk_6.out)).mono ?_
  rintro e w7 ⟨rfl, rfl⟩
  obtain ⟨w8, hW⟩ : ∃ W : World, W = (w6.setCell ⟨w.heap.size + 1, 0, none⟩ (.int .i64 2)) := ⟨_, rfl⟩
  rw [← hW]
  have hO : Only (w.heap.size + 1) w6 w8 := by rw [hW]; exact ((Only.refl (w.heap.size + 1) w6).setCell 0 _)
  have L8 := Lib.hid (live_only L6.out hO Rk_6.out noint_re Gk)
  have Rr_8 := Lib.hid ((hO.block _ (by omega)).trans Rr_6.out)
  have Ra_8 := Lib.hid ((hO.block _ (by omega)).trans Ra_6.out)
  have Rc_8 := Lib.hid ((hO.block _ (by omega)).trans Rc_6.out)
  have Rk_8 := Lib.hid (show w8.heap[w.heap.size + 1]? = some (.cells #[.int .i64 2] 48 (0, 0)) by rw [hW]; exact (heap_setCell_same _ _ 0 _ _ _ Rk_6.out))
  clear hW hO
  have fc0 := row_c (i := 0) Rc_8.out rfl
  have zc0 := frozen_of_row _ _ 0 _ _ Rc_8.out
  have fc1 := row_c (i := 1) Rc_8.out rfl
  have zc1 := frozen_of_row _ _ 1 _ _ Rc_8.out
  have xc := heap_lt Rc_8.out
  go_wp2_with fail
  refine (SM.out _ _ _ (L8.out.get (A := A5) (c := c5) (xs := digs n.natAbs) (by simp))).mono ?_
  rintro e w9 ⟨rfl, hb⟩
  have L9 := Lib.hid (L8.out.step hb)
  clear fc0 zc0 fc1 zc1 xc
  have Rr_9 := Lib.hid (cells_of Rr_8.out hb)
  have Rk_9 := Lib.hid (cells_of Rk_8.out hb)
  have Ra_9 := Lib.hid (cells_of Ra_8.out hb)
  have Rc_9 := Lib.hid (cells_of Rc_8.out hb)
  clear hb 
  have fa0 := row_c (i := 0) Ra_9.out rfl
  have za0 := frozen_of_row _ _ 0 _ _ Ra_9.out
  have fa1 := row_c (i := 1) Ra_9.out rfl
  have za1 := frozen_of_row _ _ 1 _ _ Ra_9.out
  have xa := heap_lt Ra_9.out
  have fr0 := row_c (i := 0) Rr_9.out rfl
  have zr0 := frozen_of_row _ _ 0 _ _ Rr_9.out
  have fr1 := row_c (i := 1) Rr_9.out rfl
  have zr1 := frozen_of_row _ _ 1 _ _ Rr_9.out
  have fr2 := row_c (i := 2) Rr_9.out rfl
  have zr2 := frozen_of_row _ _ 2 _ _ Rr_9.out
  have xr := heap_lt Rr_9.out
  go_wp2_with fail
  obtain ⟨w10, hW⟩ : ∃ W : World, W = (((w9.setCell ⟨w.heap.size, 0, none⟩ (.bool (decide (m < 0)))).setCell ⟨w.heap.size, 1, none⟩ (.slice A2 (digs m.natAbs).length c2)).setCell ⟨w.heap.size, 2, none⟩ (.int .i64 q)) := ⟨_, rfl⟩
  rw [← hW]
  have hO : Only (w.heap.size) w9 w10 := by rw [hW]; exact ((((Only.refl (w.heap.size) w9).setCell 0 _).setCell 1 _).setCell 2 _)
  have L10 := Lib.hid (live_only L9.out hO Rr_9.out noint_dy Gr)
  have Rk_10 := Lib.hid ((hO.block _ (by omega)).trans Rk_9.out)
  have Ra_10 := Lib.hid ((hO.block _ (by omega)).trans Ra_9.out)
  have Rc_10 := Lib.hid ((hO.block _ (by omega)).trans Rc_9.out)
  have Rr_10 := Lib.hid (show w10.heap[w.heap.size]? = some (.cells #[.bool (decide (m < 0)), .slice A2 (digs m.natAbs).length c2, .int .i64 q] 26 (0, 0)) by rw [hW]; exact (heap_setCell_same _ _ 2 _ _ _ (heap_setCell_same _ _ 1 _ _ _ (heap_setCell_same _ _ 0 _ _ _ Rr_9.out))))
  clear hW hO
  clear fa0 za0 fa1 za1 xa fr0 zr0 fr1 zr1 fr2 zr2 xr
  have fr0 := row_c (i := 0) Rr_10.out rfl
  have zr0 := frozen_of_row _ _ 0 _ _ Rr_10.out
  have fr1 := row_c (i := 1) Rr_10.out rfl
  have zr1 := frozen_of_row _ _ 1 _ _ Rr_10.out
  have fr2 := row_c (i := 2) Rr_10.out rfl
  have zr2 := frozen_of_row _ _ 2 _ _ Rr_10.out
  have xr := heap_lt Rr_10.out
  go_wp2_with fail
  refine (dright_any A2 c2 (decide (m < 0)) (digs m.natAbs) q _ (L10.out.get (A := A2) (c := c2) (xs := digs m.natAbs) (by simp)) true HR.out (Nat.le_trans lx.out (by omega))).mono ?_
  rintro e w11 ⟨rfl, hb⟩
  have L11 := Lib.hid (L10.out.step hb)
  clear fr0 zr0 fr1 zr1 fr2 zr2 xr
  have Rr_11 := Lib.hid (cells_of Rr_10.out hb)
  have Rk_11 := Lib.hid (cells_of Rk_10.out hb)
  have Ra_11 := Lib.hid (cells_of Ra_10.out hb)
  have Rc_11 := Lib.hid (cells_of Rc_10.out hb)
  clear hb 
  have fr0 := row_c (i := 0) Rr_11.out rfl
  have zr0 := frozen_of_row _ _ 0 _ _ Rr_11.out
  have fr1 := row_c (i := 1) Rr_11.out rfl
  have zr1 := frozen_of_row _ _ 1 _ _ Rr_11.out
  have fr2 := row_c (i := 2) Rr_11.out rfl
  have zr2 := frozen_of_row _ _ 2 _ _ Rr_11.out
  have xr := heap_lt Rr_11.out
  go_wp2_with fail
  refine (inRange_any A2 c2 (decide (m < 0)) m q _ (L11.out.get (A := A2) (c := c2) (xs := digs m.natAbs) (by simp)) bI HI.out (Nat.le_trans lx.out (by omega))).mono ?_
  rintro e w12 ⟨rfl, hb⟩
  have L12 := Lib.hid (L11.out.step hb)
  clear fr0 zr0 fr1 zr1 fr2 zr2 xr
  have Rr_12 := Lib.hid (cells_of Rr_11.out hb)
  have Rk_12 := Lib.hid (cells_of Rk_11.out hb)
  have Ra_12 := Lib.hid (cells_of Ra_11.out hb)
  have Rc_12 := Lib.hid (cells_of Rc_11.out hb)
  clear hb 
  go_wp2_with fail
  refine (tell_no _ 2 2 (!bI) _ (row_c Rk_12.out (i := 0) rfl) (.inr rfl)).mono ?_
  rintro e w13 ⟨rfl, rfl⟩
  go_wp2_with fail
  refine (fails_any _ 2 true _ (row_c Rk_12.out (i := 0) rfl) rfl).mono ?_
  rintro e w14 ⟨rfl, rfl⟩
  have fk0 := row_c (i := 0) Rk_12.out rfl
  have zk0 := frozen_of_row _ _ 0 _ _ Rk_12.out
  have xk := heap_lt Rk_12.out
  have fr0 := row_c (i := 0) Rr_12.out rfl
  have zr0 := frozen_of_row _ _ 0 _ _ Rr_12.out
  have fr1 := row_c (i := 1) Rr_12.out rfl
  have zr1 := frozen_of_row _ _ 1 _ _ Rr_12.out
  have fr2 := row_c (i := 2) Rr_12.out rfl
  have zr2 := frozen_of_row _ _ 2 _ _ Rr_12.out
  have xr := heap_lt Rr_12.out
  go_wp2_with fail
  go_region
  go_wp2
  clear fk0 zk0 xk fr0 zr0 fr1 zr1 fr2 zr2 xr
  obtain ⟨w15, hW⟩ : ∃ W : World, W = (((w12.setCell ⟨w.heap.size, 0, none⟩ (.bool false)).setCell ⟨w.heap.size, 1, none⟩ (.slice none 0 0)).setCell ⟨w.heap.size, 2, none⟩ (.int .i64 0)) := ⟨_, rfl⟩
  rw [← hW]
  have hO : Only (w.heap.size) w12 w15 := by rw [hW]; exact ((((Only.refl (w.heap.size) w12).setCell 0 _).setCell 1 _).setCell 2 _)
  have L15 := Lib.hid (live_only L12.out hO Rr_12.out noint_dy Gr)
  have Rk_15 := Lib.hid ((hO.block _ (by omega)).trans Rk_12.out)
  have Ra_15 := Lib.hid ((hO.block _ (by omega)).trans Ra_12.out)
  have Rc_15 := Lib.hid ((hO.block _ (by omega)).trans Rc_12.out)
  have Rr_15 := Lib.hid (show w15.heap[w.heap.size]? = some (.cells #[.bool false, .slice none 0 0, .int .i64 0] 26 (0, 0)) by rw [hW]; exact (heap_setCell_same _ _ 2 _ _ _ (heap_setCell_same _ _ 1 _ _ _ (heap_setCell_same _ _ 0 _ _ _ Rr_12.out))))
  clear hW hO
  obtain ⟨w16, hW⟩ : ∃ W : World, W = w15.drew := ⟨_, rfl⟩
  rw [← hW]
  have hb : Below w15.heap.size w15 w16 := by rw [hW]; exact bd0 _
  have L16 := Lib.hid (L15.out.step hb)
  have Rr_16 := Lib.hid (cells_of Rr_15.out hb)
  have Rk_16 := Lib.hid (cells_of Rk_15.out hb)
  have Ra_16 := Lib.hid (cells_of Ra_15.out hb)
  have Rc_16 := Lib.hid (cells_of Rc_15.out hb)
  clear hW hb
  have fr0 := row_c (i := 0) Rr_16.out rfl
  have zr0 := frozen_of_row _ _ 0 _ _ Rr_16.out
  have fr1 := row_c (i := 1) Rr_16.out rfl
  have zr1 := frozen_of_row _ _ 1 _ _ Rr_16.out
  have fr2 := row_c (i := 2) Rr_16.out rfl
  have zr2 := frozen_of_row _ _ 2 _ _ Rr_16.out
  have xr := heap_lt Rr_16.out
  refine bodyPost_ret (v := .tuple #[.agg #[.bool false, .slice none 0 0, .int .i64 0], .string ⟨#[]⟩, .int .i64 2]) (by simp [results, Tryd.results7, go_sem, fr0, fr1, fr2]) rfl ?_
  
  exact ⟨rfl, L16.out.1⟩

set_option maxHeartbeats 4000000 in
set_option maxRecDepth 100000 in
theorem dtk_e (b t1 t2 : ByteArray) (m n q : Int) (w : World) (T1 : ∀ W, Calls Tryd.prog 21 #[.string b] W fun e w' => Zt m t1 0 W e w') (T2 : ∀ W, Calls Tryd.prog 21 #[.string t1] W fun e w' => Zt n t2 0 W e w') (hl : (digs m.natAbs).length ≤ 400) (hn : (digs n.natAbs).length ≤ 400) (hq : smallz n = q) (hok : smallb n = false):
    Calls Tryd.prog 7 #[.string b] w fun e w' => e = .returned (.tuple #[.agg #[.bool false, .slice none 0 0, .int .i64 0], .string ⟨#[]⟩, .int .i64 2]) ∧ Below w.heap.size w w' := by
  have HT1 := Lib.hid T1
  have HT2 := Lib.hid T2
  have lx := Lib.hid hl
  have ly := Lib.hid hn
  have SM := Lib.hid (fun W A c hW => zsm_yes (A := A) (c := c) (Nat.le_trans hn (by omega)) hq hok W hW)
  have L0 := Lib.hid (live_start w)
  clear T1 T2 hl hn hq hok
  go_enter Tryd.func7, Tryd.ntmps7
  go_wp2_with fail
  obtain ⟨v1, hW⟩ : ∃ W : World, W = ((w.alloc (.cells #[.bool false, .slice none 0 0, .int .i64 0] 26)).alloc (.cells #[.int .i64 0] 48)) := ⟨_, rfl⟩
  rw [← hW]
  have hb : Below w.heap.size w v1 := by rw [hW]; exact (((Below.refl _ _).alloc (by simp <;> omega) _).alloc (by simp <;> omega) _)
  have L1 := Lib.hid (L0.out.step hb)
  have Rr_1 := Lib.hid (show v1.heap[w.heap.size]? = some (.cells #[.bool false, .slice none 0 0, .int .i64 0] 26 (0, 0)) by rw [hW]; have := heap_alloc_new w (.cells #[.bool false, .slice none 0 0, .int .i64 0] 26); rw [heap_alloc_old _ _ (by simp <;> omega)]; simpa using this)
  have Gr : w.heap.size ≤ w.heap.size := by have := L0.out.1.size; omega
  have Rk_1 := Lib.hid (show v1.heap[w.heap.size + 1]? = some (.cells #[.int .i64 0] 48 (0, 0)) by rw [hW]; have := heap_alloc_new (w.alloc (.cells #[.bool false, .slice none 0 0, .int .i64 0] 26)) (.cells #[.int .i64 0] 48); simpa using this)
  have Gk : w.heap.size ≤ w.heap.size + 1 := by have := L0.out.1.size; omega
  have Nrk : w.heap.size < w.heap.size + 1 := by omega
  clear hW hb
  refine (HT1.out _).mono ?_
  rintro e w2 ⟨A2, c2, rfl, hd, hb⟩
  have L2 := Lib.hid ((L1.out.step hb).add hd)
  have Rr_2 := Lib.hid (cells_of Rr_1.out hb)
  have Rk_2 := Lib.hid (cells_of Rk_1.out hb)
  clear hb hd
  go_wp2_with fail
  obtain ⟨w3, hW⟩ : ∃ W : World, W = (w2.alloc (.cells #[.bool (decide (m < 0)), .slice A2 (digs m.natAbs).length c2] 24)) := ⟨_, rfl⟩
  rw [← hW]
  have hb : Below w2.heap.size w2 w3 := by rw [hW]; exact ((Below.refl _ _).alloc (by simp <;> omega) _)
  have L3 := Lib.hid (L2.out.step hb)
  have Rr_3 := Lib.hid (cells_of Rr_2.out hb)
  have Rk_3 := Lib.hid (cells_of Rk_2.out hb)
  have Ra_3 := Lib.hid (show w3.heap[w2.heap.size]? = some (.cells #[.bool (decide (m < 0)), .slice A2 (digs m.natAbs).length c2] 24 (0, 0)) by rw [hW]; have := heap_alloc_new w2 (.cells #[.bool (decide (m < 0)), .slice A2 (digs m.natAbs).length c2] 24); simpa using this)
  have Ga : w.heap.size ≤ w2.heap.size := by have := L2.out.1.size; omega
  have Nra : w.heap.size < w2.heap.size := by have := heap_lt Rr_2.out; omega
  have Nka : w.heap.size + 1 < w2.heap.size := by have := heap_lt Rk_2.out; omega
  clear hW hb
  refine (tell_no _ 0 0 false _ (row_c Rk_3.out (i := 0) rfl) (.inl rfl)).mono ?_
  rintro e w4 ⟨rfl, rfl⟩
  go_wp2_with fail
  refine (HT2.out _).mono ?_
  rintro e w5 ⟨A5, c5, rfl, hd, hb⟩
  have L5 := Lib.hid ((L3.out.step hb).add hd)
  have Rr_5 := Lib.hid (cells_of Rr_3.out hb)
  have Rk_5 := Lib.hid (cells_of Rk_3.out hb)
  have Ra_5 := Lib.hid (cells_of Ra_3.out hb)
  clear hb hd
  go_wp2_with fail
  obtain ⟨w6, hW⟩ : ∃ W : World, W = (w5.alloc (.cells #[.bool (decide (n < 0)), .slice A5 (digs n.natAbs).length c5] 24)) := ⟨_, rfl⟩
  rw [← hW]
  have hb : Below w5.heap.size w5 w6 := by rw [hW]; exact ((Below.refl _ _).alloc (by simp <;> omega) _)
  have L6 := Lib.hid (L5.out.step hb)
  have Rr_6 := Lib.hid (cells_of Rr_5.out hb)
  have Rk_6 := Lib.hid (cells_of Rk_5.out hb)
  have Ra_6 := Lib.hid (cells_of Ra_5.out hb)
  have Rc_6 := Lib.hid (show w6.heap[w5.heap.size]? = some (.cells #[.bool (decide (n < 0)), .slice A5 (digs n.natAbs).length c5] 24 (0, 0)) by rw [hW]; have := heap_alloc_new w5 (.cells #[.bool (decide (n < 0)), .slice A5 (digs n.natAbs).length c5] 24); simpa using this)
  have Gc : w.heap.size ≤ w5.heap.size := by have := L5.out.1.size; omega
  have Nrc : w.heap.size < w5.heap.size := by have := heap_lt Rr_5.out; omega
  have Nkc : w.heap.size + 1 < w5.heap.size := by have := heap_lt Rk_5.out; omega
  have Nac : w2.heap.size < w5.heap.size := by have := heap_lt Ra_5.out; omega
  clear hW hb
  refine (tell_no _ 0 0 false _ (row_c Rk_6.out (i := 0) rfl) (.inl rfl)).mono ?_
  rintro e w7 ⟨rfl, rfl⟩
  have fc0 := row_c (i := 0) Rc_6.out rfl
  have zc0 := frozen_of_row _ _ 0 _ _ Rc_6.out
  have fc1 := row_c (i := 1) Rc_6.out rfl
  have zc1 := frozen_of_row _ _ 1 _ _ Rc_6.out
  have xc := heap_lt Rc_6.out
  go_wp2_with fail
  refine (SM.out _ _ _ (L6.out.get (A := A5) (c := c5) (xs := digs n.natAbs) (by simp))).mono ?_
  rintro e w8 ⟨rfl, hb⟩
  have L8 := Lib.hid (L6.out.step hb)
  clear fc0 zc0 fc1 zc1 xc
  have Rr_8 := Lib.hid (cells_of Rr_6.out hb)
  have Rk_8 := Lib.hid (cells_of Rk_6.out hb)
  have Ra_8 := Lib.hid (cells_of Ra_6.out hb)
  have Rc_8 := Lib.hid (cells_of Rc_6.out hb)
  clear hb 
  have fa0 := row_c (i := 0) Ra_8.out rfl
  have za0 := frozen_of_row _ _ 0 _ _ Ra_8.out
  have fa1 := row_c (i := 1) Ra_8.out rfl
  have za1 := frozen_of_row _ _ 1 _ _ Ra_8.out
  have xa := heap_lt Ra_8.out
  have fr0 := row_c (i := 0) Rr_8.out rfl
  have zr0 := frozen_of_row _ _ 0 _ _ Rr_8.out
  have fr1 := row_c (i := 1) Rr_8.out rfl
  have zr1 := frozen_of_row _ _ 1 _ _ Rr_8.out
  have fr2 := row_c (i := 2) Rr_8.out rfl
  have zr2 := frozen_of_row _ _ 2 _ _ Rr_8.out
  have xr := heap_lt Rr_8.out
  go_wp2_with fail
  obtain ⟨w9, hW⟩ : ∃ W : World, W = (((w8.setCell ⟨w.heap.size, 0, none⟩ (.bool (decide (m < 0)))).setCell ⟨w.heap.size, 1, none⟩ (.slice A2 (digs m.natAbs).length c2)).setCell ⟨w.heap.size, 2, none⟩ (.int .i64 q)) := ⟨_, rfl⟩
  rw [← hW]
  have hO : Only (w.heap.size) w8 w9 := by rw [hW]; exact ((((Only.refl (w.heap.size) w8).setCell 0 _).setCell 1 _).setCell 2 _)
  have L9 := Lib.hid (live_only L8.out hO Rr_8.out noint_dy Gr)
  have Rk_9 := Lib.hid ((hO.block _ (by omega)).trans Rk_8.out)
  have Ra_9 := Lib.hid ((hO.block _ (by omega)).trans Ra_8.out)
  have Rc_9 := Lib.hid ((hO.block _ (by omega)).trans Rc_8.out)
  have Rr_9 := Lib.hid (show w9.heap[w.heap.size]? = some (.cells #[.bool (decide (m < 0)), .slice A2 (digs m.natAbs).length c2, .int .i64 q] 26 (0, 0)) by rw [hW]; exact (heap_setCell_same _ _ 2 _ _ _ (heap_setCell_same _ _ 1 _ _ _ (heap_setCell_same _ _ 0 _ _ _ Rr_8.out))))
  clear hW hO
  clear fa0 za0 fa1 za1 xa fr0 zr0 fr1 zr1 fr2 zr2 xr
  go_wp2_with fail
  refine (tell_yes _ 2 _ (row_c Rk_9.out (i := 0) rfl) (frozen_of_row _ _ 0 _ _ Rk_9.out)).mono ?_
  rintro e w10 ⟨rfl, rfl⟩
  obtain ⟨w11, hW⟩ : ∃ W : World, W = (w9.setCell ⟨w.heap.size + 1, 0, none⟩ (.int .i64 2)) := ⟨_, rfl⟩
  rw [← hW]
  have hO : Only (w.heap.size + 1) w9 w11 := by rw [hW]; exact ((Only.refl (w.heap.size + 1) w9).setCell 0 _)
  have L11 := Lib.hid (live_only L9.out hO Rk_9.out noint_re Gk)
  have Rr_11 := Lib.hid ((hO.block _ (by omega)).trans Rr_9.out)
  have Ra_11 := Lib.hid ((hO.block _ (by omega)).trans Ra_9.out)
  have Rc_11 := Lib.hid ((hO.block _ (by omega)).trans Rc_9.out)
  have Rk_11 := Lib.hid (show w11.heap[w.heap.size + 1]? = some (.cells #[.int .i64 2] 48 (0, 0)) by rw [hW]; exact (heap_setCell_same _ _ 0 _ _ _ Rk_9.out))
  clear hW hO
  go_wp2_with fail
  refine (fails_any _ 2 true _ (row_c Rk_11.out (i := 0) rfl) rfl).mono ?_
  rintro e w12 ⟨rfl, rfl⟩
  have fk0 := row_c (i := 0) Rk_11.out rfl
  have zk0 := frozen_of_row _ _ 0 _ _ Rk_11.out
  have xk := heap_lt Rk_11.out
  have fr0 := row_c (i := 0) Rr_11.out rfl
  have zr0 := frozen_of_row _ _ 0 _ _ Rr_11.out
  have fr1 := row_c (i := 1) Rr_11.out rfl
  have zr1 := frozen_of_row _ _ 1 _ _ Rr_11.out
  have fr2 := row_c (i := 2) Rr_11.out rfl
  have zr2 := frozen_of_row _ _ 2 _ _ Rr_11.out
  have xr := heap_lt Rr_11.out
  go_wp2_with fail
  go_region
  go_wp2
  clear fk0 zk0 xk fr0 zr0 fr1 zr1 fr2 zr2 xr
  obtain ⟨w13, hW⟩ : ∃ W : World, W = (((w11.setCell ⟨w.heap.size, 0, none⟩ (.bool false)).setCell ⟨w.heap.size, 1, none⟩ (.slice none 0 0)).setCell ⟨w.heap.size, 2, none⟩ (.int .i64 0)) := ⟨_, rfl⟩
  rw [← hW]
  have hO : Only (w.heap.size) w11 w13 := by rw [hW]; exact ((((Only.refl (w.heap.size) w11).setCell 0 _).setCell 1 _).setCell 2 _)
  have L13 := Lib.hid (live_only L11.out hO Rr_11.out noint_dy Gr)
  have Rk_13 := Lib.hid ((hO.block _ (by omega)).trans Rk_11.out)
  have Ra_13 := Lib.hid ((hO.block _ (by omega)).trans Ra_11.out)
  have Rc_13 := Lib.hid ((hO.block _ (by omega)).trans Rc_11.out)
  have Rr_13 := Lib.hid (show w13.heap[w.heap.size]? = some (.cells #[.bool false, .slice none 0 0, .int .i64 0] 26 (0, 0)) by rw [hW]; exact (heap_setCell_same _ _ 2 _ _ _ (heap_setCell_same _ _ 1 _ _ _ (heap_setCell_same _ _ 0 _ _ _ Rr_11.out))))
  clear hW hO
  obtain ⟨w14, hW⟩ : ∃ W : World, W = w13.drew := ⟨_, rfl⟩
  rw [← hW]
  have hb : Below w13.heap.size w13 w14 := by rw [hW]; exact bd0 _
  have L14 := Lib.hid (L13.out.step hb)
  have Rr_14 := Lib.hid (cells_of Rr_13.out hb)
  have Rk_14 := Lib.hid (cells_of Rk_13.out hb)
  have Ra_14 := Lib.hid (cells_of Ra_13.out hb)
  have Rc_14 := Lib.hid (cells_of Rc_13.out hb)
  clear hW hb
  have fr0 := row_c (i := 0) Rr_14.out rfl
  have zr0 := frozen_of_row _ _ 0 _ _ Rr_14.out
  have fr1 := row_c (i := 1) Rr_14.out rfl
  have zr1 := frozen_of_row _ _ 1 _ _ Rr_14.out
  have fr2 := row_c (i := 2) Rr_14.out rfl
  have zr2 := frozen_of_row _ _ 2 _ _ Rr_14.out
  have xr := heap_lt Rr_14.out
  refine bodyPost_ret (v := .tuple #[.agg #[.bool false, .slice none 0 0, .int .i64 0], .string ⟨#[]⟩, .int .i64 2]) (by simp [results, Tryd.results7, go_sem, fr0, fr1, fr2]) rfl ?_
  
  exact ⟨rfl, L14.out.1⟩

set_option maxHeartbeats 4000000 in
set_option maxRecDepth 100000 in
theorem dtk_f (b t1 t2 : ByteArray) (m n q : Int) (w : World) (T1 : ∀ W, Calls Tryd.prog 21 #[.string b] W fun e w' => Zt m t1 0 W e w') (T2 : ∀ W, Calls Tryd.prog 21 #[.string t1] W fun e w' => Zt n t2 0 W e w') (hl : (digs m.natAbs).length ≤ 400) (hn : (digs n.natAbs).length ≤ 400) (hq : smallz n = q) (hok : smallb n = true) (hR : dyR (decide (m < 0)) (digs m.natAbs) q = false):
    Calls Tryd.prog 7 #[.string b] w fun e w' => e = .returned (.tuple #[.agg #[.bool false, .slice none 0 0, .int .i64 0], .string ⟨#[]⟩, .int .i64 2]) ∧ Below w.heap.size w w' := by
  have HT1 := Lib.hid T1
  have HT2 := Lib.hid T2
  have lx := Lib.hid hl
  have ly := Lib.hid hn
  have SM := Lib.hid (fun W A c hW => zsm_yes (A := A) (c := c) (Nat.le_trans hn (by omega)) hq hok W hW)
  have HR := Lib.hid hR
  have L0 := Lib.hid (live_start w)
  clear T1 T2 hl hn hq hok hR
  go_enter Tryd.func7, Tryd.ntmps7
  go_wp2_with fail
  obtain ⟨v1, hW⟩ : ∃ W : World, W = ((w.alloc (.cells #[.bool false, .slice none 0 0, .int .i64 0] 26)).alloc (.cells #[.int .i64 0] 48)) := ⟨_, rfl⟩
  rw [← hW]
  have hb : Below w.heap.size w v1 := by rw [hW]; exact (((Below.refl _ _).alloc (by simp <;> omega) _).alloc (by simp <;> omega) _)
  have L1 := Lib.hid (L0.out.step hb)
  have Rr_1 := Lib.hid (show v1.heap[w.heap.size]? = some (.cells #[.bool false, .slice none 0 0, .int .i64 0] 26 (0, 0)) by rw [hW]; have := heap_alloc_new w (.cells #[.bool false, .slice none 0 0, .int .i64 0] 26); rw [heap_alloc_old _ _ (by simp <;> omega)]; simpa using this)
  have Gr : w.heap.size ≤ w.heap.size := by have := L0.out.1.size; omega
  have Rk_1 := Lib.hid (show v1.heap[w.heap.size + 1]? = some (.cells #[.int .i64 0] 48 (0, 0)) by rw [hW]; have := heap_alloc_new (w.alloc (.cells #[.bool false, .slice none 0 0, .int .i64 0] 26)) (.cells #[.int .i64 0] 48); simpa using this)
  have Gk : w.heap.size ≤ w.heap.size + 1 := by have := L0.out.1.size; omega
  have Nrk : w.heap.size < w.heap.size + 1 := by omega
  clear hW hb
  refine (HT1.out _).mono ?_
  rintro e w2 ⟨A2, c2, rfl, hd, hb⟩
  have L2 := Lib.hid ((L1.out.step hb).add hd)
  have Rr_2 := Lib.hid (cells_of Rr_1.out hb)
  have Rk_2 := Lib.hid (cells_of Rk_1.out hb)
  clear hb hd
  go_wp2_with fail
  obtain ⟨w3, hW⟩ : ∃ W : World, W = (w2.alloc (.cells #[.bool (decide (m < 0)), .slice A2 (digs m.natAbs).length c2] 24)) := ⟨_, rfl⟩
  rw [← hW]
  have hb : Below w2.heap.size w2 w3 := by rw [hW]; exact ((Below.refl _ _).alloc (by simp <;> omega) _)
  have L3 := Lib.hid (L2.out.step hb)
  have Rr_3 := Lib.hid (cells_of Rr_2.out hb)
  have Rk_3 := Lib.hid (cells_of Rk_2.out hb)
  have Ra_3 := Lib.hid (show w3.heap[w2.heap.size]? = some (.cells #[.bool (decide (m < 0)), .slice A2 (digs m.natAbs).length c2] 24 (0, 0)) by rw [hW]; have := heap_alloc_new w2 (.cells #[.bool (decide (m < 0)), .slice A2 (digs m.natAbs).length c2] 24); simpa using this)
  have Ga : w.heap.size ≤ w2.heap.size := by have := L2.out.1.size; omega
  have Nra : w.heap.size < w2.heap.size := by have := heap_lt Rr_2.out; omega
  have Nka : w.heap.size + 1 < w2.heap.size := by have := heap_lt Rk_2.out; omega
  clear hW hb
  refine (tell_no _ 0 0 false _ (row_c Rk_3.out (i := 0) rfl) (.inl rfl)).mono ?_
  rintro e w4 ⟨rfl, rfl⟩
  go_wp2_with fail
  refine (HT2.out _).mono ?_
  rintro e w5 ⟨A5, c5, rfl, hd, hb⟩
  have L5 := Lib.hid ((L3.out.step hb).add hd)
  have Rr_5 := Lib.hid (cells_of Rr_3.out hb)
  have Rk_5 := Lib.hid (cells_of Rk_3.out hb)
  have Ra_5 := Lib.hid (cells_of Ra_3.out hb)
  clear hb hd
  go_wp2_with fail
  obtain ⟨w6, hW⟩ : ∃ W : World, W = (w5.alloc (.cells #[.bool (decide (n < 0)), .slice A5 (digs n.natAbs).length c5] 24)) := ⟨_, rfl⟩
  rw [← hW]
  have hb : Below w5.heap.size w5 w6 := by rw [hW]; exact ((Below.refl _ _).alloc (by simp <;> omega) _)
  have L6 := Lib.hid (L5.out.step hb)
  have Rr_6 := Lib.hid (cells_of Rr_5.out hb)
  have Rk_6 := Lib.hid (cells_of Rk_5.out hb)
  have Ra_6 := Lib.hid (cells_of Ra_5.out hb)
  have Rc_6 := Lib.hid (show w6.heap[w5.heap.size]? = some (.cells #[.bool (decide (n < 0)), .slice A5 (digs n.natAbs).length c5] 24 (0, 0)) by rw [hW]; have := heap_alloc_new w5 (.cells #[.bool (decide (n < 0)), .slice A5 (digs n.natAbs).length c5] 24); simpa using this)
  have Gc : w.heap.size ≤ w5.heap.size := by have := L5.out.1.size; omega
  have Nrc : w.heap.size < w5.heap.size := by have := heap_lt Rr_5.out; omega
  have Nkc : w.heap.size + 1 < w5.heap.size := by have := heap_lt Rk_5.out; omega
  have Nac : w2.heap.size < w5.heap.size := by have := heap_lt Ra_5.out; omega
  clear hW hb
  refine (tell_no _ 0 0 false _ (row_c Rk_6.out (i := 0) rfl) (.inl rfl)).mono ?_
  rintro e w7 ⟨rfl, rfl⟩
  have fc0 := row_c (i := 0) Rc_6.out rfl
  have zc0 := frozen_of_row _ _ 0 _ _ Rc_6.out
  have fc1 := row_c (i := 1) Rc_6.out rfl
  have zc1 := frozen_of_row _ _ 1 _ _ Rc_6.out
  have xc := heap_lt Rc_6.out
  go_wp2_with fail
  refine (SM.out _ _ _ (L6.out.get (A := A5) (c := c5) (xs := digs n.natAbs) (by simp))).mono ?_
  rintro e w8 ⟨rfl, hb⟩
  have L8 := Lib.hid (L6.out.step hb)
  clear fc0 zc0 fc1 zc1 xc
  have Rr_8 := Lib.hid (cells_of Rr_6.out hb)
  have Rk_8 := Lib.hid (cells_of Rk_6.out hb)
  have Ra_8 := Lib.hid (cells_of Ra_6.out hb)
  have Rc_8 := Lib.hid (cells_of Rc_6.out hb)
  clear hb 
  have fa0 := row_c (i := 0) Ra_8.out rfl
  have za0 := frozen_of_row _ _ 0 _ _ Ra_8.out
  have fa1 := row_c (i := 1) Ra_8.out rfl
  have za1 := frozen_of_row _ _ 1 _ _ Ra_8.out
  have xa := heap_lt Ra_8.out
  have fr0 := row_c (i := 0) Rr_8.out rfl
  have zr0 := frozen_of_row _ _ 0 _ _ Rr_8.out
  have fr1 := row_c (i := 1) Rr_8.out rfl
  have zr1 := frozen_of_row _ _ 1 _ _ Rr_8.out
  have fr2 := row_c (i := 2) Rr_8.out rfl
  have zr2 := frozen_of_row _ _ 2 _ _ Rr_8.out
  have xr := heap_lt Rr_8.out
  go_wp2_with fail
  obtain ⟨w9, hW⟩ : ∃ W : World, W = (((w8.setCell ⟨w.heap.size, 0, none⟩ (.bool (decide (m < 0)))).setCell ⟨w.heap.size, 1, none⟩ (.slice A2 (digs m.natAbs).length c2)).setCell ⟨w.heap.size, 2, none⟩ (.int .i64 q)) := ⟨_, rfl⟩
  rw [← hW]
  have hO : Only (w.heap.size) w8 w9 := by rw [hW]; exact ((((Only.refl (w.heap.size) w8).setCell 0 _).setCell 1 _).setCell 2 _)
  have L9 := Lib.hid (live_only L8.out hO Rr_8.out noint_dy Gr)
  have Rk_9 := Lib.hid ((hO.block _ (by omega)).trans Rk_8.out)
  have Ra_9 := Lib.hid ((hO.block _ (by omega)).trans Ra_8.out)
  have Rc_9 := Lib.hid ((hO.block _ (by omega)).trans Rc_8.out)
  have Rr_9 := Lib.hid (show w9.heap[w.heap.size]? = some (.cells #[.bool (decide (m < 0)), .slice A2 (digs m.natAbs).length c2, .int .i64 q] 26 (0, 0)) by rw [hW]; exact (heap_setCell_same _ _ 2 _ _ _ (heap_setCell_same _ _ 1 _ _ _ (heap_setCell_same _ _ 0 _ _ _ Rr_8.out))))
  clear hW hO
  clear fa0 za0 fa1 za1 xa fr0 zr0 fr1 zr1 fr2 zr2 xr
  have fr0 := row_c (i := 0) Rr_9.out rfl
  have zr0 := frozen_of_row _ _ 0 _ _ Rr_9.out
  have fr1 := row_c (i := 1) Rr_9.out rfl
  have zr1 := frozen_of_row _ _ 1 _ _ Rr_9.out
  have fr2 := row_c (i := 2) Rr_9.out rfl
  have zr2 := frozen_of_row _ _ 2 _ _ Rr_9.out
  have xr := heap_lt Rr_9.out
  go_wp2_with fail
  refine (dright_any A2 c2 (decide (m < 0)) (digs m.natAbs) q _ (L9.out.get (A := A2) (c := c2) (xs := digs m.natAbs) (by simp)) false HR.out (Nat.le_trans lx.out (by omega))).mono ?_
  rintro e w10 ⟨rfl, hb⟩
  have L10 := Lib.hid (L9.out.step hb)
  clear fr0 zr0 fr1 zr1 fr2 zr2 xr
  have Rr_10 := Lib.hid (cells_of Rr_9.out hb)
  have Rk_10 := Lib.hid (cells_of Rk_9.out hb)
  have Ra_10 := Lib.hid (cells_of Ra_9.out hb)
  have Rc_10 := Lib.hid (cells_of Rc_9.out hb)
  clear hb 
  go_wp2_with fail
  refine (tell_yes _ 2 _ (row_c Rk_10.out (i := 0) rfl) (frozen_of_row _ _ 0 _ _ Rk_10.out)).mono ?_
  rintro e w11 ⟨rfl, rfl⟩
  obtain ⟨w12, hW⟩ : ∃ W : World, W = (w10.setCell ⟨w.heap.size + 1, 0, none⟩ (.int .i64 2)) := ⟨_, rfl⟩
  rw [← hW]
  have hO : Only (w.heap.size + 1) w10 w12 := by rw [hW]; exact ((Only.refl (w.heap.size + 1) w10).setCell 0 _)
  have L12 := Lib.hid (live_only L10.out hO Rk_10.out noint_re Gk)
  have Rr_12 := Lib.hid ((hO.block _ (by omega)).trans Rr_10.out)
  have Ra_12 := Lib.hid ((hO.block _ (by omega)).trans Ra_10.out)
  have Rc_12 := Lib.hid ((hO.block _ (by omega)).trans Rc_10.out)
  have Rk_12 := Lib.hid (show w12.heap[w.heap.size + 1]? = some (.cells #[.int .i64 2] 48 (0, 0)) by rw [hW]; exact (heap_setCell_same _ _ 0 _ _ _ Rk_10.out))
  clear hW hO
  go_wp2_with fail
  refine (fails_any _ 2 true _ (row_c Rk_12.out (i := 0) rfl) rfl).mono ?_
  rintro e w13 ⟨rfl, rfl⟩
  have fk0 := row_c (i := 0) Rk_12.out rfl
  have zk0 := frozen_of_row _ _ 0 _ _ Rk_12.out
  have xk := heap_lt Rk_12.out
  have fr0 := row_c (i := 0) Rr_12.out rfl
  have zr0 := frozen_of_row _ _ 0 _ _ Rr_12.out
  have fr1 := row_c (i := 1) Rr_12.out rfl
  have zr1 := frozen_of_row _ _ 1 _ _ Rr_12.out
  have fr2 := row_c (i := 2) Rr_12.out rfl
  have zr2 := frozen_of_row _ _ 2 _ _ Rr_12.out
  have xr := heap_lt Rr_12.out
  go_wp2_with fail
  go_region
  go_wp2
  clear fk0 zk0 xk fr0 zr0 fr1 zr1 fr2 zr2 xr
  obtain ⟨w14, hW⟩ : ∃ W : World, W = (((w12.setCell ⟨w.heap.size, 0, none⟩ (.bool false)).setCell ⟨w.heap.size, 1, none⟩ (.slice none 0 0)).setCell ⟨w.heap.size, 2, none⟩ (.int .i64 0)) := ⟨_, rfl⟩
  rw [← hW]
  have hO : Only (w.heap.size) w12 w14 := by rw [hW]; exact ((((Only.refl (w.heap.size) w12).setCell 0 _).setCell 1 _).setCell 2 _)
  have L14 := Lib.hid (live_only L12.out hO Rr_12.out noint_dy Gr)
  have Rk_14 := Lib.hid ((hO.block _ (by omega)).trans Rk_12.out)
  have Ra_14 := Lib.hid ((hO.block _ (by omega)).trans Ra_12.out)
  have Rc_14 := Lib.hid ((hO.block _ (by omega)).trans Rc_12.out)
  have Rr_14 := Lib.hid (show w14.heap[w.heap.size]? = some (.cells #[.bool false, .slice none 0 0, .int .i64 0] 26 (0, 0)) by rw [hW]; exact (heap_setCell_same _ _ 2 _ _ _ (heap_setCell_same _ _ 1 _ _ _ (heap_setCell_same _ _ 0 _ _ _ Rr_12.out))))
  clear hW hO
  obtain ⟨w15, hW⟩ : ∃ W : World, W = w14.drew := ⟨_, rfl⟩
  rw [← hW]
  have hb : Below w14.heap.size w14 w15 := by rw [hW]; exact bd0 _
  have L15 := Lib.hid (L14.out.step hb)
  have Rr_15 := Lib.hid (cells_of Rr_14.out hb)
  have Rk_15 := Lib.hid (cells_of Rk_14.out hb)
  have Ra_15 := Lib.hid (cells_of Ra_14.out hb)
  have Rc_15 := Lib.hid (cells_of Rc_14.out hb)
  clear hW hb
  have fr0 := row_c (i := 0) Rr_15.out rfl
  have zr0 := frozen_of_row _ _ 0 _ _ Rr_15.out
  have fr1 := row_c (i := 1) Rr_15.out rfl
  have zr1 := frozen_of_row _ _ 1 _ _ Rr_15.out
  have fr2 := row_c (i := 2) Rr_15.out rfl
  have zr2 := frozen_of_row _ _ 2 _ _ Rr_15.out
  have xr := heap_lt Rr_15.out
  refine bodyPost_ret (v := .tuple #[.agg #[.bool false, .slice none 0 0, .int .i64 0], .string ⟨#[]⟩, .int .i64 2]) (by simp [results, Tryd.results7, go_sem, fr0, fr1, fr2]) rfl ?_
  
  exact ⟨rfl, L15.out.1⟩

set_option maxHeartbeats 4000000 in
set_option maxRecDepth 100000 in
theorem dtk_g (b t1 t2 : ByteArray) (m n q : Int) (w : World) (T1 : ∀ W, Calls Tryd.prog 21 #[.string b] W fun e w' => Zt m t1 0 W e w') (T2 : ∀ W, Calls Tryd.prog 21 #[.string t1] W fun e w' => Zt n t2 0 W e w') (hl : (digs m.natAbs).length ≤ 400) (hn : (digs n.natAbs).length ≤ 400) (hq : smallz n = q) (hok : smallb n = true) (hR : dyR (decide (m < 0)) (digs m.natAbs) q = true) (hI : inR m q = false):
    Calls Tryd.prog 7 #[.string b] w fun e w' => e = .returned (.tuple #[.agg #[.bool false, .slice none 0 0, .int .i64 0], .string ⟨#[]⟩, .int .i64 2]) ∧ Below w.heap.size w w' := by
  have HT1 := Lib.hid T1
  have HT2 := Lib.hid T2
  have lx := Lib.hid hl
  have ly := Lib.hid hn
  have SM := Lib.hid (fun W A c hW => zsm_yes (A := A) (c := c) (Nat.le_trans hn (by omega)) hq hok W hW)
  have HR := Lib.hid hR
  have HI := Lib.hid hI
  have L0 := Lib.hid (live_start w)
  clear T1 T2 hl hn hq hok hR hI
  go_enter Tryd.func7, Tryd.ntmps7
  go_wp2_with fail
  obtain ⟨v1, hW⟩ : ∃ W : World, W = ((w.alloc (.cells #[.bool false, .slice none 0 0, .int .i64 0] 26)).alloc (.cells #[.int .i64 0] 48)) := ⟨_, rfl⟩
  rw [← hW]
  have hb : Below w.heap.size w v1 := by rw [hW]; exact (((Below.refl _ _).alloc (by simp <;> omega) _).alloc (by simp <;> omega) _)
  have L1 := Lib.hid (L0.out.step hb)
  have Rr_1 := Lib.hid (show v1.heap[w.heap.size]? = some (.cells #[.bool false, .slice none 0 0, .int .i64 0] 26 (0, 0)) by rw [hW]; have := heap_alloc_new w (.cells #[.bool false, .slice none 0 0, .int .i64 0] 26); rw [heap_alloc_old _ _ (by simp <;> omega)]; simpa using this)
  have Gr : w.heap.size ≤ w.heap.size := by have := L0.out.1.size; omega
  have Rk_1 := Lib.hid (show v1.heap[w.heap.size + 1]? = some (.cells #[.int .i64 0] 48 (0, 0)) by rw [hW]; have := heap_alloc_new (w.alloc (.cells #[.bool false, .slice none 0 0, .int .i64 0] 26)) (.cells #[.int .i64 0] 48); simpa using this)
  have Gk : w.heap.size ≤ w.heap.size + 1 := by have := L0.out.1.size; omega
  have Nrk : w.heap.size < w.heap.size + 1 := by omega
  clear hW hb
  refine (HT1.out _).mono ?_
  rintro e w2 ⟨A2, c2, rfl, hd, hb⟩
  have L2 := Lib.hid ((L1.out.step hb).add hd)
  have Rr_2 := Lib.hid (cells_of Rr_1.out hb)
  have Rk_2 := Lib.hid (cells_of Rk_1.out hb)
  clear hb hd
  go_wp2_with fail
  obtain ⟨w3, hW⟩ : ∃ W : World, W = (w2.alloc (.cells #[.bool (decide (m < 0)), .slice A2 (digs m.natAbs).length c2] 24)) := ⟨_, rfl⟩
  rw [← hW]
  have hb : Below w2.heap.size w2 w3 := by rw [hW]; exact ((Below.refl _ _).alloc (by simp <;> omega) _)
  have L3 := Lib.hid (L2.out.step hb)
  have Rr_3 := Lib.hid (cells_of Rr_2.out hb)
  have Rk_3 := Lib.hid (cells_of Rk_2.out hb)
  have Ra_3 := Lib.hid (show w3.heap[w2.heap.size]? = some (.cells #[.bool (decide (m < 0)), .slice A2 (digs m.natAbs).length c2] 24 (0, 0)) by rw [hW]; have := heap_alloc_new w2 (.cells #[.bool (decide (m < 0)), .slice A2 (digs m.natAbs).length c2] 24); simpa using this)
  have Ga : w.heap.size ≤ w2.heap.size := by have := L2.out.1.size; omega
  have Nra : w.heap.size < w2.heap.size := by have := heap_lt Rr_2.out; omega
  have Nka : w.heap.size + 1 < w2.heap.size := by have := heap_lt Rk_2.out; omega
  clear hW hb
  refine (tell_no _ 0 0 false _ (row_c Rk_3.out (i := 0) rfl) (.inl rfl)).mono ?_
  rintro e w4 ⟨rfl, rfl⟩
  go_wp2_with fail
  refine (HT2.out _).mono ?_
  rintro e w5 ⟨A5, c5, rfl, hd, hb⟩
  have L5 := Lib.hid ((L3.out.step hb).add hd)
  have Rr_5 := Lib.hid (cells_of Rr_3.out hb)
  have Rk_5 := Lib.hid (cells_of Rk_3.out hb)
  have Ra_5 := Lib.hid (cells_of Ra_3.out hb)
  clear hb hd
  go_wp2_with fail
  obtain ⟨w6, hW⟩ : ∃ W : World, W = (w5.alloc (.cells #[.bool (decide (n < 0)), .slice A5 (digs n.natAbs).length c5] 24)) := ⟨_, rfl⟩
  rw [← hW]
  have hb : Below w5.heap.size w5 w6 := by rw [hW]; exact ((Below.refl _ _).alloc (by simp <;> omega) _)
  have L6 := Lib.hid (L5.out.step hb)
  have Rr_6 := Lib.hid (cells_of Rr_5.out hb)
  have Rk_6 := Lib.hid (cells_of Rk_5.out hb)
  have Ra_6 := Lib.hid (cells_of Ra_5.out hb)
  have Rc_6 := Lib.hid (show w6.heap[w5.heap.size]? = some (.cells #[.bool (decide (n < 0)), .slice A5 (digs n.natAbs).length c5] 24 (0, 0)) by rw [hW]; have := heap_alloc_new w5 (.cells #[.bool (decide (n < 0)), .slice A5 (digs n.natAbs).length c5] 24); simpa using this)
  have Gc : w.heap.size ≤ w5.heap.size := by have := L5.out.1.size; omega
  have Nrc : w.heap.size < w5.heap.size := by have := heap_lt Rr_5.out; omega
  have Nkc : w.heap.size + 1 < w5.heap.size := by have := heap_lt Rk_5.out; omega
  have Nac : w2.heap.size < w5.heap.size := by have := heap_lt Ra_5.out; omega
  clear hW hb
  refine (tell_no _ 0 0 false _ (row_c Rk_6.out (i := 0) rfl) (.inl rfl)).mono ?_
  rintro e w7 ⟨rfl, rfl⟩
  have fc0 := row_c (i := 0) Rc_6.out rfl
  have zc0 := frozen_of_row _ _ 0 _ _ Rc_6.out
  have fc1 := row_c (i := 1) Rc_6.out rfl
  have zc1 := frozen_of_row _ _ 1 _ _ Rc_6.out
  have xc := heap_lt Rc_6.out
  go_wp2_with fail
  refine (SM.out _ _ _ (L6.out.get (A := A5) (c := c5) (xs := digs n.natAbs) (by simp))).mono ?_
  rintro e w8 ⟨rfl, hb⟩
  have L8 := Lib.hid (L6.out.step hb)
  clear fc0 zc0 fc1 zc1 xc
  have Rr_8 := Lib.hid (cells_of Rr_6.out hb)
  have Rk_8 := Lib.hid (cells_of Rk_6.out hb)
  have Ra_8 := Lib.hid (cells_of Ra_6.out hb)
  have Rc_8 := Lib.hid (cells_of Rc_6.out hb)
  clear hb 
  have fa0 := row_c (i := 0) Ra_8.out rfl
  have za0 := frozen_of_row _ _ 0 _ _ Ra_8.out
  have fa1 := row_c (i := 1) Ra_8.out rfl
  have za1 := frozen_of_row _ _ 1 _ _ Ra_8.out
  have xa := heap_lt Ra_8.out
  have fr0 := row_c (i := 0) Rr_8.out rfl
  have zr0 := frozen_of_row _ _ 0 _ _ Rr_8.out
  have fr1 := row_c (i := 1) Rr_8.out rfl
  have zr1 := frozen_of_row _ _ 1 _ _ Rr_8.out
  have fr2 := row_c (i := 2) Rr_8.out rfl
  have zr2 := frozen_of_row _ _ 2 _ _ Rr_8.out
  have xr := heap_lt Rr_8.out
  go_wp2_with fail
  obtain ⟨w9, hW⟩ : ∃ W : World, W = (((w8.setCell ⟨w.heap.size, 0, none⟩ (.bool (decide (m < 0)))).setCell ⟨w.heap.size, 1, none⟩ (.slice A2 (digs m.natAbs).length c2)).setCell ⟨w.heap.size, 2, none⟩ (.int .i64 q)) := ⟨_, rfl⟩
  rw [← hW]
  have hO : Only (w.heap.size) w8 w9 := by rw [hW]; exact ((((Only.refl (w.heap.size) w8).setCell 0 _).setCell 1 _).setCell 2 _)
  have L9 := Lib.hid (live_only L8.out hO Rr_8.out noint_dy Gr)
  have Rk_9 := Lib.hid ((hO.block _ (by omega)).trans Rk_8.out)
  have Ra_9 := Lib.hid ((hO.block _ (by omega)).trans Ra_8.out)
  have Rc_9 := Lib.hid ((hO.block _ (by omega)).trans Rc_8.out)
  have Rr_9 := Lib.hid (show w9.heap[w.heap.size]? = some (.cells #[.bool (decide (m < 0)), .slice A2 (digs m.natAbs).length c2, .int .i64 q] 26 (0, 0)) by rw [hW]; exact (heap_setCell_same _ _ 2 _ _ _ (heap_setCell_same _ _ 1 _ _ _ (heap_setCell_same _ _ 0 _ _ _ Rr_8.out))))
  clear hW hO
  clear fa0 za0 fa1 za1 xa fr0 zr0 fr1 zr1 fr2 zr2 xr
  have fr0 := row_c (i := 0) Rr_9.out rfl
  have zr0 := frozen_of_row _ _ 0 _ _ Rr_9.out
  have fr1 := row_c (i := 1) Rr_9.out rfl
  have zr1 := frozen_of_row _ _ 1 _ _ Rr_9.out
  have fr2 := row_c (i := 2) Rr_9.out rfl
  have zr2 := frozen_of_row _ _ 2 _ _ Rr_9.out
  have xr := heap_lt Rr_9.out
  go_wp2_with fail
  refine (dright_any A2 c2 (decide (m < 0)) (digs m.natAbs) q _ (L9.out.get (A := A2) (c := c2) (xs := digs m.natAbs) (by simp)) true HR.out (Nat.le_trans lx.out (by omega))).mono ?_
  rintro e w10 ⟨rfl, hb⟩
  have L10 := Lib.hid (L9.out.step hb)
  clear fr0 zr0 fr1 zr1 fr2 zr2 xr
  have Rr_10 := Lib.hid (cells_of Rr_9.out hb)
  have Rk_10 := Lib.hid (cells_of Rk_9.out hb)
  have Ra_10 := Lib.hid (cells_of Ra_9.out hb)
  have Rc_10 := Lib.hid (cells_of Rc_9.out hb)
  clear hb 
  have fr0 := row_c (i := 0) Rr_10.out rfl
  have zr0 := frozen_of_row _ _ 0 _ _ Rr_10.out
  have fr1 := row_c (i := 1) Rr_10.out rfl
  have zr1 := frozen_of_row _ _ 1 _ _ Rr_10.out
  have fr2 := row_c (i := 2) Rr_10.out rfl
  have zr2 := frozen_of_row _ _ 2 _ _ Rr_10.out
  have xr := heap_lt Rr_10.out
  go_wp2_with fail
  refine (inRange_any A2 c2 (decide (m < 0)) m q _ (L10.out.get (A := A2) (c := c2) (xs := digs m.natAbs) (by simp)) false HI.out (Nat.le_trans lx.out (by omega))).mono ?_
  rintro e w11 ⟨rfl, hb⟩
  have L11 := Lib.hid (L10.out.step hb)
  clear fr0 zr0 fr1 zr1 fr2 zr2 xr
  have Rr_11 := Lib.hid (cells_of Rr_10.out hb)
  have Rk_11 := Lib.hid (cells_of Rk_10.out hb)
  have Ra_11 := Lib.hid (cells_of Ra_10.out hb)
  have Rc_11 := Lib.hid (cells_of Rc_10.out hb)
  clear hb 
  go_wp2_with fail
  refine (tell_yes _ 2 _ (row_c Rk_11.out (i := 0) rfl) (frozen_of_row _ _ 0 _ _ Rk_11.out)).mono ?_
  rintro e w12 ⟨rfl, rfl⟩
  obtain ⟨w13, hW⟩ : ∃ W : World, W = (w11.setCell ⟨w.heap.size + 1, 0, none⟩ (.int .i64 2)) := ⟨_, rfl⟩
  rw [← hW]
  have hO : Only (w.heap.size + 1) w11 w13 := by rw [hW]; exact ((Only.refl (w.heap.size + 1) w11).setCell 0 _)
  have L13 := Lib.hid (live_only L11.out hO Rk_11.out noint_re Gk)
  have Rr_13 := Lib.hid ((hO.block _ (by omega)).trans Rr_11.out)
  have Ra_13 := Lib.hid ((hO.block _ (by omega)).trans Ra_11.out)
  have Rc_13 := Lib.hid ((hO.block _ (by omega)).trans Rc_11.out)
  have Rk_13 := Lib.hid (show w13.heap[w.heap.size + 1]? = some (.cells #[.int .i64 2] 48 (0, 0)) by rw [hW]; exact (heap_setCell_same _ _ 0 _ _ _ Rk_11.out))
  clear hW hO
  go_wp2_with fail
  refine (fails_any _ 2 true _ (row_c Rk_13.out (i := 0) rfl) rfl).mono ?_
  rintro e w14 ⟨rfl, rfl⟩
  have fk0 := row_c (i := 0) Rk_13.out rfl
  have zk0 := frozen_of_row _ _ 0 _ _ Rk_13.out
  have xk := heap_lt Rk_13.out
  have fr0 := row_c (i := 0) Rr_13.out rfl
  have zr0 := frozen_of_row _ _ 0 _ _ Rr_13.out
  have fr1 := row_c (i := 1) Rr_13.out rfl
  have zr1 := frozen_of_row _ _ 1 _ _ Rr_13.out
  have fr2 := row_c (i := 2) Rr_13.out rfl
  have zr2 := frozen_of_row _ _ 2 _ _ Rr_13.out
  have xr := heap_lt Rr_13.out
  go_wp2_with fail
  go_region
  go_wp2
  clear fk0 zk0 xk fr0 zr0 fr1 zr1 fr2 zr2 xr
  obtain ⟨w15, hW⟩ : ∃ W : World, W = (((w13.setCell ⟨w.heap.size, 0, none⟩ (.bool false)).setCell ⟨w.heap.size, 1, none⟩ (.slice none 0 0)).setCell ⟨w.heap.size, 2, none⟩ (.int .i64 0)) := ⟨_, rfl⟩
  rw [← hW]
  have hO : Only (w.heap.size) w13 w15 := by rw [hW]; exact ((((Only.refl (w.heap.size) w13).setCell 0 _).setCell 1 _).setCell 2 _)
  have L15 := Lib.hid (live_only L13.out hO Rr_13.out noint_dy Gr)
  have Rk_15 := Lib.hid ((hO.block _ (by omega)).trans Rk_13.out)
  have Ra_15 := Lib.hid ((hO.block _ (by omega)).trans Ra_13.out)
  have Rc_15 := Lib.hid ((hO.block _ (by omega)).trans Rc_13.out)
  have Rr_15 := Lib.hid (show w15.heap[w.heap.size]? = some (.cells #[.bool false, .slice none 0 0, .int .i64 0] 26 (0, 0)) by rw [hW]; exact (heap_setCell_same _ _ 2 _ _ _ (heap_setCell_same _ _ 1 _ _ _ (heap_setCell_same _ _ 0 _ _ _ Rr_13.out))))
  clear hW hO
  obtain ⟨w16, hW⟩ : ∃ W : World, W = w15.drew := ⟨_, rfl⟩
  rw [← hW]
  have hb : Below w15.heap.size w15 w16 := by rw [hW]; exact bd0 _
  have L16 := Lib.hid (L15.out.step hb)
  have Rr_16 := Lib.hid (cells_of Rr_15.out hb)
  have Rk_16 := Lib.hid (cells_of Rk_15.out hb)
  have Ra_16 := Lib.hid (cells_of Ra_15.out hb)
  have Rc_16 := Lib.hid (cells_of Rc_15.out hb)
  clear hW hb
  have fr0 := row_c (i := 0) Rr_16.out rfl
  have zr0 := frozen_of_row _ _ 0 _ _ Rr_16.out
  have fr1 := row_c (i := 1) Rr_16.out rfl
  have zr1 := frozen_of_row _ _ 1 _ _ Rr_16.out
  have fr2 := row_c (i := 2) Rr_16.out rfl
  have zr2 := frozen_of_row _ _ 2 _ _ Rr_16.out
  have xr := heap_lt Rr_16.out
  refine bodyPost_ret (v := .tuple #[.agg #[.bool false, .slice none 0 0, .int .i64 0], .string ⟨#[]⟩, .int .i64 2]) (by simp [results, Tryd.results7, go_sem, fr0, fr1, fr2]) rfl ?_
  
  exact ⟨rfl, L16.out.1⟩

set_option maxHeartbeats 4000000 in
set_option maxRecDepth 100000 in
theorem dtk_h (b t1 t2 : ByteArray) (m n q : Int) (w : World) (T1 : ∀ W, Calls Tryd.prog 21 #[.string b] W fun e w' => Zt m t1 0 W e w') (T2 : ∀ W, Calls Tryd.prog 21 #[.string t1] W fun e w' => Zt n t2 0 W e w') (hl : (digs m.natAbs).length ≤ 400) (hn : (digs n.natAbs).length ≤ 400) (hq : smallz n = q) (hok : smallb n = true) (hR : dyR (decide (m < 0)) (digs m.natAbs) q = true) (hI : inR m q = true):
    Calls Tryd.prog 7 #[.string b] w fun e w' => ∃ A c, e = .returned (.tuple #[.agg #[.bool (decide (m < 0)), .slice A (digs m.natAbs).length c, .int .i64 q], .string t2, .int .i64 0]) ∧ Dg w' A c (digs m.natAbs) ∧ Below w.heap.size w w' := by
  have HT1 := Lib.hid T1
  have HT2 := Lib.hid T2
  have lx := Lib.hid hl
  have ly := Lib.hid hn
  have SM := Lib.hid (fun W A c hW => zsm_yes (A := A) (c := c) (Nat.le_trans hn (by omega)) hq hok W hW)
  have HR := Lib.hid hR
  have HI := Lib.hid hI
  have L0 := Lib.hid (live_start w)
  clear T1 T2 hl hn hq hok hR hI
  go_enter Tryd.func7, Tryd.ntmps7
  go_wp2_with fail
  obtain ⟨v1, hW⟩ : ∃ W : World, W = ((w.alloc (.cells #[.bool false, .slice none 0 0, .int .i64 0] 26)).alloc (.cells #[.int .i64 0] 48)) := ⟨_, rfl⟩
  rw [← hW]
  have hb : Below w.heap.size w v1 := by rw [hW]; exact (((Below.refl _ _).alloc (by simp <;> omega) _).alloc (by simp <;> omega) _)
  have L1 := Lib.hid (L0.out.step hb)
  have Rr_1 := Lib.hid (show v1.heap[w.heap.size]? = some (.cells #[.bool false, .slice none 0 0, .int .i64 0] 26 (0, 0)) by rw [hW]; have := heap_alloc_new w (.cells #[.bool false, .slice none 0 0, .int .i64 0] 26); rw [heap_alloc_old _ _ (by simp <;> omega)]; simpa using this)
  have Gr : w.heap.size ≤ w.heap.size := by have := L0.out.1.size; omega
  have Rk_1 := Lib.hid (show v1.heap[w.heap.size + 1]? = some (.cells #[.int .i64 0] 48 (0, 0)) by rw [hW]; have := heap_alloc_new (w.alloc (.cells #[.bool false, .slice none 0 0, .int .i64 0] 26)) (.cells #[.int .i64 0] 48); simpa using this)
  have Gk : w.heap.size ≤ w.heap.size + 1 := by have := L0.out.1.size; omega
  have Nrk : w.heap.size < w.heap.size + 1 := by omega
  clear hW hb
  refine (HT1.out _).mono ?_
  rintro e w2 ⟨A2, c2, rfl, hd, hb⟩
  have L2 := Lib.hid ((L1.out.step hb).add hd)
  have Rr_2 := Lib.hid (cells_of Rr_1.out hb)
  have Rk_2 := Lib.hid (cells_of Rk_1.out hb)
  clear hb hd
  go_wp2_with fail
  obtain ⟨w3, hW⟩ : ∃ W : World, W = (w2.alloc (.cells #[.bool (decide (m < 0)), .slice A2 (digs m.natAbs).length c2] 24)) := ⟨_, rfl⟩
  rw [← hW]
  have hb : Below w2.heap.size w2 w3 := by rw [hW]; exact ((Below.refl _ _).alloc (by simp <;> omega) _)
  have L3 := Lib.hid (L2.out.step hb)
  have Rr_3 := Lib.hid (cells_of Rr_2.out hb)
  have Rk_3 := Lib.hid (cells_of Rk_2.out hb)
  have Ra_3 := Lib.hid (show w3.heap[w2.heap.size]? = some (.cells #[.bool (decide (m < 0)), .slice A2 (digs m.natAbs).length c2] 24 (0, 0)) by rw [hW]; have := heap_alloc_new w2 (.cells #[.bool (decide (m < 0)), .slice A2 (digs m.natAbs).length c2] 24); simpa using this)
  have Ga : w.heap.size ≤ w2.heap.size := by have := L2.out.1.size; omega
  have Nra : w.heap.size < w2.heap.size := by have := heap_lt Rr_2.out; omega
  have Nka : w.heap.size + 1 < w2.heap.size := by have := heap_lt Rk_2.out; omega
  clear hW hb
  refine (tell_no _ 0 0 false _ (row_c Rk_3.out (i := 0) rfl) (.inl rfl)).mono ?_
  rintro e w4 ⟨rfl, rfl⟩
  go_wp2_with fail
  refine (HT2.out _).mono ?_
  rintro e w5 ⟨A5, c5, rfl, hd, hb⟩
  have L5 := Lib.hid ((L3.out.step hb).add hd)
  have Rr_5 := Lib.hid (cells_of Rr_3.out hb)
  have Rk_5 := Lib.hid (cells_of Rk_3.out hb)
  have Ra_5 := Lib.hid (cells_of Ra_3.out hb)
  clear hb hd
  go_wp2_with fail
  obtain ⟨w6, hW⟩ : ∃ W : World, W = (w5.alloc (.cells #[.bool (decide (n < 0)), .slice A5 (digs n.natAbs).length c5] 24)) := ⟨_, rfl⟩
  rw [← hW]
  have hb : Below w5.heap.size w5 w6 := by rw [hW]; exact ((Below.refl _ _).alloc (by simp <;> omega) _)
  have L6 := Lib.hid (L5.out.step hb)
  have Rr_6 := Lib.hid (cells_of Rr_5.out hb)
  have Rk_6 := Lib.hid (cells_of Rk_5.out hb)
  have Ra_6 := Lib.hid (cells_of Ra_5.out hb)
  have Rc_6 := Lib.hid (show w6.heap[w5.heap.size]? = some (.cells #[.bool (decide (n < 0)), .slice A5 (digs n.natAbs).length c5] 24 (0, 0)) by rw [hW]; have := heap_alloc_new w5 (.cells #[.bool (decide (n < 0)), .slice A5 (digs n.natAbs).length c5] 24); simpa using this)
  have Gc : w.heap.size ≤ w5.heap.size := by have := L5.out.1.size; omega
  have Nrc : w.heap.size < w5.heap.size := by have := heap_lt Rr_5.out; omega
  have Nkc : w.heap.size + 1 < w5.heap.size := by have := heap_lt Rk_5.out; omega
  have Nac : w2.heap.size < w5.heap.size := by have := heap_lt Ra_5.out; omega
  clear hW hb
  refine (tell_no _ 0 0 false _ (row_c Rk_6.out (i := 0) rfl) (.inl rfl)).mono ?_
  rintro e w7 ⟨rfl, rfl⟩
  have fc0 := row_c (i := 0) Rc_6.out rfl
  have zc0 := frozen_of_row _ _ 0 _ _ Rc_6.out
  have fc1 := row_c (i := 1) Rc_6.out rfl
  have zc1 := frozen_of_row _ _ 1 _ _ Rc_6.out
  have xc := heap_lt Rc_6.out
  go_wp2_with fail
  refine (SM.out _ _ _ (L6.out.get (A := A5) (c := c5) (xs := digs n.natAbs) (by simp))).mono ?_
  rintro e w8 ⟨rfl, hb⟩
  have L8 := Lib.hid (L6.out.step hb)
  clear fc0 zc0 fc1 zc1 xc
  have Rr_8 := Lib.hid (cells_of Rr_6.out hb)
  have Rk_8 := Lib.hid (cells_of Rk_6.out hb)
  have Ra_8 := Lib.hid (cells_of Ra_6.out hb)
  have Rc_8 := Lib.hid (cells_of Rc_6.out hb)
  clear hb 
  have fa0 := row_c (i := 0) Ra_8.out rfl
  have za0 := frozen_of_row _ _ 0 _ _ Ra_8.out
  have fa1 := row_c (i := 1) Ra_8.out rfl
  have za1 := frozen_of_row _ _ 1 _ _ Ra_8.out
  have xa := heap_lt Ra_8.out
  have fr0 := row_c (i := 0) Rr_8.out rfl
  have zr0 := frozen_of_row _ _ 0 _ _ Rr_8.out
  have fr1 := row_c (i := 1) Rr_8.out rfl
  have zr1 := frozen_of_row _ _ 1 _ _ Rr_8.out
  have fr2 := row_c (i := 2) Rr_8.out rfl
  have zr2 := frozen_of_row _ _ 2 _ _ Rr_8.out
  have xr := heap_lt Rr_8.out
  go_wp2_with fail
  obtain ⟨w9, hW⟩ : ∃ W : World, W = (((w8.setCell ⟨w.heap.size, 0, none⟩ (.bool (decide (m < 0)))).setCell ⟨w.heap.size, 1, none⟩ (.slice A2 (digs m.natAbs).length c2)).setCell ⟨w.heap.size, 2, none⟩ (.int .i64 q)) := ⟨_, rfl⟩
  rw [← hW]
  have hO : Only (w.heap.size) w8 w9 := by rw [hW]; exact ((((Only.refl (w.heap.size) w8).setCell 0 _).setCell 1 _).setCell 2 _)
  have L9 := Lib.hid (live_only L8.out hO Rr_8.out noint_dy Gr)
  have Rk_9 := Lib.hid ((hO.block _ (by omega)).trans Rk_8.out)
  have Ra_9 := Lib.hid ((hO.block _ (by omega)).trans Ra_8.out)
  have Rc_9 := Lib.hid ((hO.block _ (by omega)).trans Rc_8.out)
  have Rr_9 := Lib.hid (show w9.heap[w.heap.size]? = some (.cells #[.bool (decide (m < 0)), .slice A2 (digs m.natAbs).length c2, .int .i64 q] 26 (0, 0)) by rw [hW]; exact (heap_setCell_same _ _ 2 _ _ _ (heap_setCell_same _ _ 1 _ _ _ (heap_setCell_same _ _ 0 _ _ _ Rr_8.out))))
  clear hW hO
  clear fa0 za0 fa1 za1 xa fr0 zr0 fr1 zr1 fr2 zr2 xr
  have fr0 := row_c (i := 0) Rr_9.out rfl
  have zr0 := frozen_of_row _ _ 0 _ _ Rr_9.out
  have fr1 := row_c (i := 1) Rr_9.out rfl
  have zr1 := frozen_of_row _ _ 1 _ _ Rr_9.out
  have fr2 := row_c (i := 2) Rr_9.out rfl
  have zr2 := frozen_of_row _ _ 2 _ _ Rr_9.out
  have xr := heap_lt Rr_9.out
  go_wp2_with fail
  refine (dright_any A2 c2 (decide (m < 0)) (digs m.natAbs) q _ (L9.out.get (A := A2) (c := c2) (xs := digs m.natAbs) (by simp)) true HR.out (Nat.le_trans lx.out (by omega))).mono ?_
  rintro e w10 ⟨rfl, hb⟩
  have L10 := Lib.hid (L9.out.step hb)
  clear fr0 zr0 fr1 zr1 fr2 zr2 xr
  have Rr_10 := Lib.hid (cells_of Rr_9.out hb)
  have Rk_10 := Lib.hid (cells_of Rk_9.out hb)
  have Ra_10 := Lib.hid (cells_of Ra_9.out hb)
  have Rc_10 := Lib.hid (cells_of Rc_9.out hb)
  clear hb 
  have fr0 := row_c (i := 0) Rr_10.out rfl
  have zr0 := frozen_of_row _ _ 0 _ _ Rr_10.out
  have fr1 := row_c (i := 1) Rr_10.out rfl
  have zr1 := frozen_of_row _ _ 1 _ _ Rr_10.out
  have fr2 := row_c (i := 2) Rr_10.out rfl
  have zr2 := frozen_of_row _ _ 2 _ _ Rr_10.out
  have xr := heap_lt Rr_10.out
  go_wp2_with fail
  refine (inRange_any A2 c2 (decide (m < 0)) m q _ (L10.out.get (A := A2) (c := c2) (xs := digs m.natAbs) (by simp)) true HI.out (Nat.le_trans lx.out (by omega))).mono ?_
  rintro e w11 ⟨rfl, hb⟩
  have L11 := Lib.hid (L10.out.step hb)
  clear fr0 zr0 fr1 zr1 fr2 zr2 xr
  have Rr_11 := Lib.hid (cells_of Rr_10.out hb)
  have Rk_11 := Lib.hid (cells_of Rk_10.out hb)
  have Ra_11 := Lib.hid (cells_of Ra_10.out hb)
  have Rc_11 := Lib.hid (cells_of Rc_10.out hb)
  clear hb 
  go_wp2_with fail
  refine (tell_no _ 0 2 false _ (row_c Rk_11.out (i := 0) rfl) (.inl rfl)).mono ?_
  rintro e w12 ⟨rfl, rfl⟩
  go_wp2_with fail
  refine (fails_any _ 0 false _ (row_c Rk_11.out (i := 0) rfl) rfl).mono ?_
  rintro e w13 ⟨rfl, rfl⟩
  have fr0 := row_c (i := 0) Rr_11.out rfl
  have zr0 := frozen_of_row _ _ 0 _ _ Rr_11.out
  have fr1 := row_c (i := 1) Rr_11.out rfl
  have zr1 := frozen_of_row _ _ 1 _ _ Rr_11.out
  have fr2 := row_c (i := 2) Rr_11.out rfl
  have zr2 := frozen_of_row _ _ 2 _ _ Rr_11.out
  have xr := heap_lt Rr_11.out
  go_wp2
  obtain ⟨w14, hW⟩ : ∃ W : World, W = (((w11.setCell ⟨w.heap.size, 0, none⟩ (.bool (decide (m < 0)))).setCell ⟨w.heap.size, 1, none⟩ (.slice A2 (digs m.natAbs).length c2)).setCell ⟨w.heap.size, 2, none⟩ (.int .i64 q)) := ⟨_, rfl⟩
  rw [← hW]
  have hO : Only (w.heap.size) w11 w14 := by rw [hW]; exact ((((Only.refl (w.heap.size) w11).setCell 0 _).setCell 1 _).setCell 2 _)
  have L14 := Lib.hid (live_only L11.out hO Rr_11.out noint_dy Gr)
  have Rk_14 := Lib.hid ((hO.block _ (by omega)).trans Rk_11.out)
  have Ra_14 := Lib.hid ((hO.block _ (by omega)).trans Ra_11.out)
  have Rc_14 := Lib.hid ((hO.block _ (by omega)).trans Rc_11.out)
  have Rr_14 := Lib.hid (show w14.heap[w.heap.size]? = some (.cells #[.bool (decide (m < 0)), .slice A2 (digs m.natAbs).length c2, .int .i64 q] 26 (0, 0)) by rw [hW]; exact (heap_setCell_same _ _ 2 _ _ _ (heap_setCell_same _ _ 1 _ _ _ (heap_setCell_same _ _ 0 _ _ _ Rr_11.out))))
  clear hW hO
  clear fr0 zr0 fr1 zr1 fr2 zr2 xr
  have fr0 := row_c (i := 0) Rr_14.out rfl
  have zr0 := frozen_of_row _ _ 0 _ _ Rr_14.out
  have fr1 := row_c (i := 1) Rr_14.out rfl
  have zr1 := frozen_of_row _ _ 1 _ _ Rr_14.out
  have fr2 := row_c (i := 2) Rr_14.out rfl
  have zr2 := frozen_of_row _ _ 2 _ _ Rr_14.out
  have xr := heap_lt Rr_14.out
  refine bodyPost_ret (v := .tuple #[.agg #[.bool (decide (m < 0)), .slice A2 (digs m.natAbs).length c2, .int .i64 q], .string t2, .int .i64 0]) (by simp [results, Tryd.results7, go_sem, fr0, fr1, fr2]) rfl ?_
  
  exact ⟨A2, c2, rfl, L14.out.get (A := A2) (c := c2) (xs := digs m.natAbs) (by simp), L14.out.1⟩
end Go.Proofs.YtcfoepogbfngmaaDoor
end

section
/-
  dyad.Take, answered or refused.
-/
namespace Go.Proofs.YtcfoepogbfngmaaDoor
open Go.RowKit
set_option linter.unusedSimpArgs false
set_option linter.unusedVariables false
theorem rt_of {m e : Int} (h : dyR (decide (m < 0)) (digs m.natAbs) e = true) : Rt m e := by
  unfold dyR at h
  by_cases hm : m.natAbs = 0
  · rw [hm, digs_zero] at h
    have h2 : (e == 0) = true := by simp at h; simp [h.2]
    have h3 : e = 0 := by simpa using h2
    exact ⟨.inl ⟨by omega, h3⟩, by omega, by omega⟩
  · have hl : (digs m.natAbs).length ≠ 0 := fun e => hm (digs_nil.1 e)
    rw [if_neg hl] at h
    simp only [Bool.and_eq_true, decide_eq_true_eq] at h
    obtain ⟨⟨⟨_, h2⟩, h3⟩, h4⟩ := h
    rw [digs_pos hm] at h2
    simp only [List.getElem?_cons_zero, Option.getD_some] at h2
    exact ⟨.inr (by omega), h3, h4⟩
theorem smz {n : Int} (h : smallb n = true) : smallz n = n := by
  unfold smallb at h; rw [decide_eq_true_eq] at h; exact if_pos h
theorem zb_pos (m : Int) : 0 < (zb m).length := by have := zbytes_len (decide (m < 0)) (digs m.natAbs); unfold zb; omega
theorem dtake_yes {b t : ByteArray} {m x : Int} (hb : b.data.toList = zb m ++ zb x ++ t.data.toList) (hl : (digs m.natAbs).length ≤ 400) (r : Rt m x) (hI : inR m x = true) (hm : b.data.toList.length ≤ 9223372036854775807) (w : World) :
    Calls Tryd.prog 7 #[.string b] w fun e w' => ∃ A c, e = .returned (.tuple #[.agg #[.bool (decide (m < 0)), .slice A (digs m.natAbs).length c, .int .i64 x], .string t, .int .i64 0]) ∧ Dg w' A c (digs m.natAbs) ∧ Below w.heap.size w w' := by
  obtain ⟨t1, ht1⟩ : ∃ t1 : ByteArray, t1.data.toList = zb x ++ t.data.toList := ⟨⟨(zb x ++ t.data.toList).toArray⟩, rfl⟩
  have x0 := r.2.1
  have x1 := r.2.2
  have h2 : (digs x.natAbs).length ≤ 400 := Nat.le_trans (digs_small (by omega)) (by omega)
  have hb1 : b.data.toList = zb m ++ t1.data.toList := by rw [hb, ht1, List.append_assoc]
  have hm1 : t1.data.toList.length ≤ 9223372036854775807 := by rw [hb1, List.length_append] at hm; omega
  exact dtk_h b t1 t m x x w (ztk_yes hb1 hl hm) (ztk_yes ht1 h2 hm1) hl h2 (if_pos ⟨by omega, by omega⟩) (decide_eq_true ⟨by omega, by omega⟩) (dyR_num r) hI
theorem dtake_no {b : ByteArray} (h : ¬ ∃ m x t, b.data.toList = zb m ++ zb x ++ t ∧ (digs m.natAbs).length ≤ 400 ∧ Rt m x ∧ inR m x = true) (hm : b.data.toList.length ≤ 9223372036854775807) (w : World) :
    Calls Tryd.prog 7 #[.string b] w fun e w' => e = .returned (.tuple #[.agg #[.bool false, .slice none 0 0, .int .i64 0], .string ⟨#[]⟩, .int .i64 2]) ∧ Below w.heap.size w w' := by
  have hz : (digs (0 : Int).natAbs).length ≤ 400 := by show (digs 0).length ≤ 400; rw [digs_zero]; simp
  have hs0 : smallz 0 = 0 := if_pos ⟨by omega, by omega⟩
  have hb0 : smallb 0 = true := decide_eq_true ⟨by omega, by omega⟩
  by_cases h1 : ∃ m r, (digs m.natAbs).length ≤ 400 ∧ b.data.toList = zb m ++ r
  · obtain ⟨m, r, hl, hb⟩ := h1
    obtain ⟨t1, rfl⟩ : ∃ t1 : ByteArray, t1.data.toList = r := ⟨⟨r.toArray⟩, rfl⟩
    have hm1 : t1.data.toList.length ≤ 9223372036854775807 := by rw [hb, List.length_append] at hm; omega
    by_cases h2 : ∃ n s, (digs n.natAbs).length ≤ 400 ∧ t1.data.toList = zb n ++ s
    · obtain ⟨n, s, hn, hb2⟩ := h2
      obtain ⟨t2, rfl⟩ : ∃ t2 : ByteArray, t2.data.toList = s := ⟨⟨s.toArray⟩, rfl⟩
      rcases hs : smallb n with _ | _
      · exact dtk_e b t1 t2 m n _ w (ztk_yes hb hl hm) (ztk_yes hb2 hn hm1) hl hn rfl hs
      · rcases hR : dyR (decide (m < 0)) (digs m.natAbs) n with _ | _
        · exact dtk_f b t1 t2 m n n w (ztk_yes hb hl hm) (ztk_yes hb2 hn hm1) hl hn (smz hs) hs hR
        · rcases hI : inR m n with _ | _
          · exact dtk_g b t1 t2 m n n w (ztk_yes hb hl hm) (ztk_yes hb2 hn hm1) hl hn (smz hs) hs hR hI
          · exact absurd ⟨m, n, t2.data.toList, by rw [hb, hb2, List.append_assoc], hl, rt_of hR, hI⟩ h
    · rcases hR : dyR (decide (m < 0)) (digs m.natAbs) 0 with _ | _
      · exact dtk_c b t1 ⟨#[]⟩ m 0 0 w (ztk_yes hb hl hm) (ztk_no hm1 h2) hl hz hs0 hb0 hR
      · exact dtk_d b t1 ⟨#[]⟩ m 0 0 _ w (ztk_yes hb hl hm) (ztk_no hm1 h2) hl hz hs0 hb0 hR rfl
  · have hn : ¬ ∃ m r, (digs m.natAbs).length ≤ 400 ∧ (⟨#[]⟩ : ByteArray).data.toList = zb m ++ r := by
      rintro ⟨m, r, _, e⟩
      have l1 := congrArg List.length e
      have l2 := zb_pos m
      rw [List.length_append] at l1
      simp at l1; omega
    have hm0 : (⟨#[]⟩ : ByteArray).data.toList.length ≤ 9223372036854775807 := by simp
    rcases hR : dyR (decide ((0 : Int) < 0)) (digs (0 : Int).natAbs) 0 with _ | _
    · exact dtk_a b ⟨#[]⟩ ⟨#[]⟩ 0 0 0 w (ztk_no hm h1) (ztk_no hm0 hn) hz hz hs0 hb0 hR
    · exact dtk_b b ⟨#[]⟩ ⟨#[]⟩ 0 0 0 _ w (ztk_no hm h1) (ztk_no hm0 hn) hz hz hs0 hb0 hR rfl
end Go.Proofs.YtcfoepogbfngmaaDoor
end

section
/-
  dyad.Neg.
-/
namespace Go.Proofs.YtcfoepogbfngmaaDoor
open Go.RowKit
set_option linter.unusedSimpArgs false
set_option linter.unusedVariables false
end Go.Proofs.YtcfoepogbfngmaaDoor
end

section
/-
  dyad.Sub, Mul, Scale, Size.
-/
namespace Go.Proofs.YtcfoepogbfngmaaDoor
open Go.RowKit
set_option linter.unusedSimpArgs false
set_option linter.unusedVariables false
end Go.Proofs.YtcfoepogbfngmaaDoor
end
