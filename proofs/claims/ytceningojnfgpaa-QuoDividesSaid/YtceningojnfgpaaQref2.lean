/-
  The reference's own text (astrolaberef03): DivMod.
-/
import Derived.Test.YtceningojnfgpaaQref
namespace Go.Proofs.Ytceningojnfgpaa
open Go.RowKit
/-- What stands between two digits of the reference's long division: the digits from k on are done. -/
structure Rv (X D k : Nat) (zs : List Nat) (r : Nat) : Prop where
  lt : r < D
  ok : ok32 zs
  eq : X / 4294967296 ^ k = val (zs.drop k) * D + r
theorem Rv.start {X D N : Nat} (hD : 0 < D) (h : X < 4294967296 ^ N) : Rv X D N (List.replicate N 0) 0 :=
  ⟨hD, ok_zeros _, by rw [Nat.div_eq_of_lt h]; simp [val]⟩
theorem Rv.next {X D k : Nat} {zs : List Nat} {r x : Nat} (h : Rv X D (k + 1) zs r) (hk : k < zs.length) (hx : x = X / 4294967296 ^ k % 4294967296) :
    x + 4294967296 * r < D * 4294967296 ∧ ∀ q, q = (x + 4294967296 * r) / D → Rv X D k (zs.set k q) (x + 4294967296 * r - D * q) := by
  have hl := h.lt
  have hx' : x < 4294967296 := by omega
  have h1 : x + 4294967296 * r < D * 4294967296 := by
    have := Nat.mul_le_mul_left 4294967296 hl
    omega
  refine ⟨h1, fun q hq => ?_⟩
  have hD : 0 < D := by omega
  have hm := Nat.div_add_mod (x + 4294967296 * r) D
  have hr := Nat.mod_lt (x + 4294967296 * r) hD
  rw [← hq] at hm
  refine ⟨by omega, ok_set h.ok (by rw [hq, Nat.div_lt_iff_lt_mul hD]; omega) _, ?_⟩
  have e2 : (zs.set k q).drop k = q :: zs.drop (k + 1) := by
    rw [List.drop_eq_getElem_cons (by simpa using hk), List.drop_set_of_lt (by omega)]; simp
  have e3 : X / 4294967296 ^ k = x + 4294967296 * (X / 4294967296 ^ (k + 1)) := by
    rw [Nat.pow_succ, ← Nat.div_div_eq_div_mul]; omega
  rw [e2, e3, h.eq]
  simp only [val]
  rw [Nat.add_mul, Nat.mul_add, Nat.mul_assoc, Nat.mul_comm q D]
  omega
theorem Rv.done {X D : Nat} {zs : List Nat} {r : Nat} (h : Rv X D 0 zs r) : val zs = X / D ∧ r = X % D := by
  have := h.eq
  rw [Nat.pow_zero, Nat.div_one, List.drop_zero] at this
  exact div_done (by rw [this, Nat.mul_comm]; omega) h.lt
theorem digs_cons (x r : Nat) : val (x :: digs r) = x + 4294967296 * r := by simp only [val, val_digs]
theorem digs_at (X k : Nat) : (digs X)[k]?.getD 0 = X / 4294967296 ^ k % 4294967296 := by
  induction k generalizing X with
  | zero =>
    by_cases h : X = 0
    · subst h; rw [digs_zero]; simp
    · rw [digs_pos h]; simp
  | succ k ih =>
    by_cases h : X = 0
    · subst h; rw [digs_zero]; simp
    · rw [digs_pos h, List.getElem?_cons_succ, ih, Nat.pow_succ, Nat.mul_comm, Nat.div_div_eq_div_mul]
theorem Dg.set_other {w : World} {A : Option Addr} {c g : Nat} {xs : List Nat} (h : Dg w A c xs) (hA : ∀ o, A ≠ some ⟨g, o, none⟩) (i : Nat) (v : Value) : Dg (w.setCell ⟨g, i, none⟩ v) A c xs :=
  ⟨h.1, h.2.1, fun h0 => by
    obtain ⟨b, off, e, hb, hc⟩ := h.2.2 h0
    have hne : b ≠ g := fun e' => hA off (by rw [e, e'])
    refine ⟨b, off, e, by simpa using hb, fun j hj => ?_⟩
    rw [World.cell?_setCell_other _ _ _ _ (by intro h; simp only [Addr.mk.injEq] at h; omega)]
    exact hc j hj⟩
theorem rsub_any (A B : Option Addr) (c d x y : Nat) (w : World) (h : Dg w A c (digs x)) (h' : Dg w B d (digs y)) (hl : (digs x).length ≤ 1048576) (hl' : (digs y).length ≤ 1048576) :
    Calls Try.prog 34 #[.slice A (digs x).length c, .slice B (digs y).length d] w fun e w' => ∃ A' c', e = .returned (.tuple #[.slice A' (digs (x - y)).length c', .bool (decide (y ≤ x))]) ∧ Dg w' A' c' (digs (x - y)) ∧ Below w.heap.size w w' ∧ Fr w.heap.size A' := by
  rcases Nat.lt_or_ge x y with hlt | hge
  · have h0 := rsub_no A B c d (digs x) (digs y) w h h' hl hl' (by rw [val_digs, val_digs]; exact hlt)
    refine h0.mono fun _ _ ⟨he, hw⟩ => ⟨none, 0, ?_, ?_, ?_, fr_none _⟩
    · rw [he, show x - y = 0 by omega, digs_zero, decide_eq_false (by omega)]; rfl
    · rw [show x - y = 0 by omega, digs_zero]; exact Dg.nil_ _ _
    · rw [← hw]; exact Below.refl _ _
  · have h0 := rsub_f A B c d (digs x) (digs y) w h h' hl hl' (by rw [val_digs, val_digs]; exact hge)
    rw [val_digs, val_digs] at h0
    refine h0.mono fun _ _ ⟨A', c', he, hd, hb, hf⟩ => ⟨A', c', ?_, hd, hb, hf⟩
    rw [he, decide_eq_true hge]
section
variable {w0 w w' : World} {L : List (Option Addr × Nat × List Nat)} {A B : Option Addr} {c d x y : Nat} {q : Bool}
theorem rsub_b (hL : Live w0 w L) (h1 : (A, c, digs x) ∈ L) (h2 : (B, d, digs y) ∈ L) (b1 : (digs x).length ≤ 1048576) (b2 : (digs y).length ≤ 1048576) (hq : decide (y ≤ x) = q) :
    Calls Try.prog 34 #[.slice A (digs x).length c, .slice B (digs y).length d] w fun e w' => ∃ A' c', e = .returned (.tuple #[.slice A' (digs (x - y)).length c', .bool q]) ∧ Live w0 w' ((A', c', digs (x - y)) :: L) ∧ Fr w0.heap.size A' := by
  subst hq
  exact (rsub_any A B c d x y w (hL.get h1) (hL.get h2) b1 b2).mono fun _ _ ⟨A', c', he, hd, hb, hf⟩ => ⟨A', c', he, (hL.step hb).add hd, fun b o e => Nat.le_trans hL.1.size (hf b o e)⟩
end
theorem digs_len_step (R D : Nat) (h : R < D * 4294967296) : (digs R).length ≤ (digs D).length + 1 := by
  apply digs_len_lt
  have h1 := val_lt (ok_digs D)
  rw [val_digs] at h1
  rw [Nat.pow_succ]
  exact Nat.lt_trans h (Nat.mul_lt_mul_of_pos_right h1 (by omega))
theorem quot_is {R D g : Nat} (hD : 0 < D) (h1 : R / D ≤ g) (h2 : D * g ≤ R) : g = R / D := Nat.le_antisymm (by rw [Nat.le_div_iff_mul_le hD, Nat.mul_comm]; exact h2) h1
theorem quot_less {R D g : Nat} (hD : 0 < D) (h2 : ¬ D * g ≤ R) : 1 ≤ g ∧ R / D ≤ g - 1 := by
  have h3 : R / D < g := by rw [Nat.div_lt_iff_lt_mul hD, Nat.mul_comm]; omega
  generalize R / D = q at *
  omega
set_option maxHeartbeats 8000000 in
theorem rdivmod_long (A B : Option Addr) (c d : Nat) (xs ys : List Nat) (w : World) (h : Dg w A c xs) (h' : Dg w B d ys) (hl : xs.length ≤ 100000) (hl' : ys.length ≤ 100000) (h2 : 2 ≤ (digs (val ys)).length) :
    Calls Try.prog 13 #[.slice A xs.length c, .slice B ys.length d] w fun e w' => ∃ A' c' B' d', e = .returned (.tuple #[.slice A' (digs (val xs / val ys)).length c', .slice B' (digs (val xs % val ys)).length d', .bool true]) ∧ Dg w' A' c' (digs (val xs / val ys)) ∧ Dg w' B' d' (digs (val xs % val ys)) ∧ Below w.heap.size w w' := by
  have y0 : val ys ≠ 0 := fun e => by rw [e, digs_zero] at h2; simp at h2
  obtain ⟨s, hs31, hs⟩ := norm_way y0
  have L0 := Lib.hid (((live_start w).add h).add h')
  have l1 := digs_len_le h.2.1
  have l2 := digs_len_le h'.2.1
  have HN := Lib.hid (show (32 : Int) * ((digs (val ys)).length : Int) - (blen (val ys) : Int) = (s : Int) by omega)
  have bB : blen (val ys) ≤ 32 * (digs (val ys)).length := by omega
  have t0 : (((digs (val ys)).length : Int) == 0) = false := beq_eq_false_iff_ne.2 (by omega)
  have t1 : (((digs (val ys)).length : Int) == 1) = false := beq_eq_false_iff_ne.2 (by omega)
  have HDM := Lib.hid (div_moved (val xs) (val ys) s)
  have HMM := Lib.hid (mod_moved (val xs) (val ys) s)
  have HD0 := Lib.hid (show 0 < val ys * 2 ^ s from Nat.mul_pos (by omega) (Nat.pow_pos (by omega)))
  have ld := digs_shl_len (val ys) s
  have lm := digs_shl_len (val xs) s
  clear h h' hs y0
  go_enter Try.func13, Try.ntmps13
  go_wp2_with fail
  refine Calls.mono (rtrim_l (xs := ys) (x := val ys) L0.out (by simp) rfl rfl (by omega)) ?_
  rintro e w1 ⟨A1, c1, rfl, h1⟩
  have L1 := Lib.hid h1
  clear h1
  go_wp2_with fail
  refine Calls.mono (rbits_l (xs := digs (val ys)) (x := val ys) (q := (blen (val ys) : Int)) L1.out (by simp) rfl (val_digs _) (by omega) rfl) ?_
  rintro e w2 ⟨rfl, h1⟩
  have L2 := Lib.hid h1
  clear h1
  go_wp2_with fail
  rw [HN.out]
  refine Calls.mono (rshl_l (xs := digs (val ys)) (x := val ys) (i := (s : Int)) (k := s) L2.out (by simp) rfl (val_digs _) (by omega) rfl (by omega)) ?_
  rintro e w3 ⟨A3, c3, rfl, h1⟩
  have L3 := Lib.hid h1
  clear h1
  go_wp2_with fail
  refine Calls.mono (rshl_l (xs := xs) (x := val xs) (i := (s : Int)) (k := s) L3.out (by simp) rfl rfl (by omega) rfl (by omega)) ?_
  rintro e w4 ⟨A4, c4, rfl, h1⟩
  have L4 := Lib.hid (show Live w w4 [(A4, c4, digs (val xs * 2 ^ s)), (A3, c3, digs (val ys * 2 ^ s))] from ⟨h1.1, fun t ht => h1.2 t (by simp at ht ⊢; rcases ht with rfl | rfl <;> simp)⟩)
  clear h1 L0 L1 L2 L3
  generalize val xs * 2 ^ s = M at *
  generalize val ys * 2 ^ s = D at *
  have lm' : (digs M).length ≤ 200000 := by omega
  have ld' : (digs D).length ≤ 200000 := by omega
  have HM := Lib.hid (show M < 4294967296 ^ (digs M).length by have := val_lt (ok_digs M); rwa [val_digs] at this)
  have hmk := run_make_row' (P := Try.prog) 22 37 (.int .u32 0) 4 Try.underlying22 elem_info rfl .i64 .i64 (digs M).length (by omega) (by omega)
  clear lm ld l1 l2 t0 t1 h2 bB hl hl'
  go_wp2
  go_loopw [14, 15] (fun rv i wr => ∃ (A5 : Option Addr) (c5 r k : Nat) (z : Int) (zs : List Nat), k ≤ (digs M).length ∧ i = .int .i64 z ∧ z = (k : Int) - 1 ∧ rv = .slice A5 (digs r).length c5 ∧ Hid (Dg wr A5 c5 (digs r)) ∧ Hid (∀ o, A5 ≠ some ⟨w4.heap.size, o, none⟩) ∧ Row wr w4.heap.size zs ∧ Hid (zs.length = (digs M).length) ∧
    Hid (Rv M D k zs r) ∧ Below w4.heap.size w4 wr) (fun _ i _ => (intOf i + 1).toNat)
  case atStart => exact ⟨none, 0, 0, (digs M).length, ((digs M).length : Int) - 1, List.replicate (digs M).length 0, Nat.le_refl _, rfl, rfl, by rw [digs_zero]; rfl, by rw [digs_zero]; exact Dg.nil_ _ _, (fun _ h => nomatch h), Row.made _ _, by simp [Hid], Rv.start HD0.out HM.out, (Below.refl _ _).alloc (Nat.le_refl _) _⟩
  case round =>
    obtain ⟨A5, c5, r, k, z, zs, hk, rfl, hz, rfl, HA5, HNE, hrow, HL, HE, hbel⟩ := hrel
    rcases k with _ | k
    · obtain rfl : z = -1 := by omega
      clear hz hk
      obtain ⟨e1, e2⟩ := HE.out.done
      have hl' := HL.out
      have lr : (digs r).length ≤ (digs D).length := digs_len_mono _ _ (Nat.le_of_lt HE.out.lt)
      have L5 := Lib.hid (((live_start wr).add HA5.out).add (hrow.dg HE.out.ok (c := (digs M).length) (by omega)))
      have E1 := Lib.hid (show val zs = val xs / val ys by rw [e1, HDM.out])
      have E2 := Lib.hid (show r / 2 ^ s = val xs % val ys by rw [e2, HMM.out])
      clear e1 e2
      go_wp2_with fail
      refine Calls.mono (rtrim_l (xs := zs) (x := val xs / val ys) L5.out (by simp) hl'.symm E1.out (by omega)) ?_
      rintro e w6 ⟨A6, c6, rfl, h1⟩
      have L6 := Lib.hid h1
      clear h1
      go_wp2_with fail
      refine Calls.mono (rshr_l (xs := digs r) (x := r) (i := (s : Int)) (k := s) L6.out (by simp) rfl (val_digs _) (by omega) rfl (by omega)) ?_
      rw [E2.out]
      rintro e w7 ⟨A7, c7, rfl, h1⟩
      have L7 := Lib.hid h1
      clear h1
      go_wp2
      go_ret3
      exact ⟨A6, c6, A7, c7, rfl, L7.out.get (by simp), L7.out.get (by simp), L4.out.1.trans ((hbel.trans (L7.out.1.mono hbel.size)).mono L4.out.1.size)⟩
    · obtain rfl : z = (k : Int) := by omega
      clear hz
      have hl' := HL.out
      have hlt : k < (digs M).length := by omega
      obtain ⟨bn, on, hAn, hbn, hcn⟩ := (L4.out.get (A := A4) (c := c4) (xs := digs M) (by simp)).2.2 (by omega)
      have hx := (hbel.cell (p := ⟨bn, on + k, none⟩) hbn).trans (hcn k hlt)
      have hX := getD_lt (ok_digs M) k
      have HX := Lib.hid (digs_at M k)
      generalize (digs M)[k]?.getD 0 = x at *
      obtain ⟨hlt2, hnx⟩ := HE.out.next (x := x) (by omega) HX.out
      have HNX := Lib.hid hnx
      have LR := digs_len_mono _ _ (Nat.le_of_lt HE.out.lt)
      have hcell := hrow.cell (i := k) (by omega)
      have hfr := hrow.frozen k
      have HLT2 := Lib.hid hlt2
      have HO := Lib.hid (World.ownsRow_lit (base := wr.heap.size) (e := 37) (size := 1) wr #[.int .u32 (x : Int)] 1 (Nat.le_refl _) (by unfold maxLen; omega) rfl)
      subst hAn
      have LM := Lib.hid (L4.out.get (A := some ⟨bn, on, none⟩) (c := c4) (xs := digs M) (by simp))
      have LD := Lib.hid (L4.out.get (A := A3) (c := c3) (xs := digs D) (by simp))
      clear hcn hnx hlt2
      go_wp2_with (at_builtin; refine wpList_append_dg rfl _ _ rfl wr.heap.size _ 1 [x] (digs r) A5 c5 (digs r).length rfl HO.out (HA5.out.below ((Below.refl _ _).alloc (Nat.le_refl _) _)) rfl rfl (by omega) (by simp) ?_)
      intro v' w6 hown hgrow
      obtain ⟨A6, c6, hv, hd6⟩ := dg_of_own hown (fun y hy => (List.mem_cons.1 hy).elim (fun h => h ▸ hX) (fun h => ok_digs r y h))
      have hb6 := ((Below.refl _ wr).alloc (Nat.le_refl _) (.cells #[.int .u32 (x : Int)] 37)).grown hgrow (by simp) (by intro k hk; simp [Value.ownBlock] at hk; omega)
      have L6 := Lib.hid (show Live wr w6 [(A6, c6, x :: digs r), (A3, c3, digs D)] from ((((live_start wr).add (LD.out.below hbel)).step hb6).add hd6))
      have l6 : (x :: digs r).length ≤ 200001 := by simp; omega
      subst hv
      clear hown hd6 hgrow hb6
      go_wp2_with fail
      refine Calls.mono (rtrim_l (xs := x :: digs r) (x := x + 4294967296 * r) L6.out (by simp) (by simp) (digs_cons x r) (by omega)) ?_
      rintro e w7 ⟨A7, c7, rfl, h1⟩
      have L7 := Lib.hid h1
      clear h1 L6 l6
      obtain ⟨R, hR⟩ : ∃ R, x + 4294967296 * r = R := ⟨_, rfl⟩
      rw [hR] at L7 HLT2 HNX
      rw [hR]
      have lR : (digs R).length ≤ 200001 := by
        have h1 := digs_len_step R D HLT2.out
        omega
      clear hR
      go_wp2_with fail
      refine Calls.mono (rguess_any A7 A3 c7 c3 R D w7 (L7.out.get (by simp)) (L7.out.get (by simp)) (by have := HD0.out; omega) HLT2.out (by omega)) ?_
      rintro e w8 ⟨⟨g, rfl, hg, bg⟩, rfl⟩
      have HG := Lib.hid hg
      clear hg
      go_wp2_with fail
      refine Calls.mono (rfrom_l L7.out (i := (g : Int)) (k := g) rfl (by omega)) ?_
      rintro e w8 ⟨A8, c8, rfl, h1⟩
      have L8 := Lib.hid h1
      clear h1
      have lg := digs_small (n := g) (by omega)
      go_wp2_with fail
      refine Calls.mono (rmul_l (xs := digs D) (ys := digs g) (x := D) (y := g) L8.out (by simp) (by simp) rfl rfl (val_digs _) (val_digs _) (by omega) (by omega)) ?_
      rintro e w9 ⟨A9, c9, rfl, h1⟩
      have L9 := Lib.hid h1
      clear h1
      have lm9 := digs_mul_len D g
      go_wp2_with fail
      obtain ⟨q0, hq0⟩ : ∃ q, decide (D * g ≤ R) = q := ⟨_, rfl⟩
      have HQ0 := Lib.hid hq0
      clear hq0
      refine Calls.mono (rsub_b (x := R) (y := D * g) L9.out (by simp) (by simp) (by omega) (by omega) HQ0.out) ?_
      rintro e w10 ⟨A10, c10, rfl, h1, hf1⟩
      have HF10 := Lib.hid hf1
      clear hf1
      have L10 := Lib.hid (show Live wr w10 [(A10, c10, digs (R - D * g)), (A7, c7, digs R), (A3, c3, digs D)] from ⟨h1.1, fun t ht => h1.2 t (by simp at ht ⊢; rcases ht with rfl | rfl | rfl <;> simp)⟩)
      clear h1 L7 L8 L9 lm9 lg
      obtain ⟨wo, rfl⟩ : ∃ wo : World, wo = wr := ⟨_, rfl⟩
      go_wp2
      go_loopg [16, 17, 18] g (fun g' gv sv bv wr2 => ∃ (A11 : Option Addr) (c11 : Nat) (q : Bool), gv = .int .u64 g' ∧ sv = .slice A11 (digs (R - D * g')).length c11 ∧ bv = .bool q ∧ Hid (decide (D * g' ≤ R) = q) ∧ Hid (R / D ≤ g') ∧ g' < 4294967296 ∧
        Hid (Live wo wr2 [(A11, c11, digs (R - D * g')), (A7, c7, digs R), (A3, c3, digs D)]) ∧ Hid (Fr wo.heap.size A11))
      case atStart => exact ⟨A10, c10, q0, rfl, rfl, rfl, HQ0.out, HG.out, bg, L10.out, HF10.out⟩
      case round =>
        obtain ⟨A11, c11, q, rfl, rfl, rfl, HQ, HG2, bg2, L11, HF⟩ := hrel
        rcases q with _ | _
        · have HS := Lib.hid (quot_less HD0.out (of_decide_eq_false HQ.out))
          have g1 := HS.out.1
          have eg : (gk : Int) - 1 = ((gk - 1 : Nat) : Int) := by omega
          have EG := Lib.hid eg
          clear eg
          go_wp2_with fail
          rw [EG.out]
          refine Calls.mono (rfrom_l L11.out (i := ((gk - 1 : Nat) : Int)) (k := gk - 1) rfl (by omega)) ?_
          rintro e w12 ⟨A12, c12, rfl, h1⟩
          have L12 := Lib.hid h1
          clear h1
          have lg := digs_small (n := gk - 1) (by omega)
          go_wp2_with fail
          refine Calls.mono (rmul_l (xs := digs D) (ys := digs (gk - 1)) (x := D) (y := gk - 1) L12.out (by simp) (by simp) rfl rfl (val_digs _) (val_digs _) (by omega) (by omega)) ?_
          rintro e w13 ⟨A13, c13, rfl, h1⟩
          have L13 := Lib.hid h1
          clear h1
          have lm9 := digs_mul_len D (gk - 1)
          obtain ⟨q1, hq1⟩ : ∃ q, decide (D * (gk - 1) ≤ R) = q := ⟨_, rfl⟩
          have HQ1 := Lib.hid hq1
          clear hq1
          go_wp2_with fail
          refine Calls.mono (rsub_b (x := R) (y := D * (gk - 1)) L13.out (by simp) (by simp) (by omega) (by omega) HQ1.out) ?_
          rintro e w14 ⟨A14, c14, rfl, h1, hf1⟩
          have HF14 := Lib.hid hf1
          have L14 := Lib.hid (show Live wo w14 [(A14, c14, digs (R - D * (gk - 1))), (A7, c7, digs R), (A3, c3, digs D)] from ⟨h1.1, fun t ht => h1.2 t (by simp at ht ⊢; rcases ht with rfl | rfl | rfl <;> simp)⟩)
          clear h1 hf1
          go_wp2
          go_roundg (gk - 1)
          case measure => have := HS.out.1; omega
          case rel => exact ⟨A14, c14, q1, rfl, rfl, rfl, HQ1.out, HS.out.2, by omega, L14.out, HF14.out⟩
        · have HS := Lib.hid (quot_is HD0.out HG2.out (of_decide_eq_true HQ.out))
          have hrow2 := hrow.below_ L11.out.1
          have hcell2 := hrow2.cell (i := k) (by omega)
          have hfr2 := hrow2.frozen k
          have HB2 := Lib.hid (hbel.trans (L11.out.1.mono hbel.size))
          have hne2 : ∀ o, A11 ≠ some ⟨w4.heap.size, o, none⟩ := fun o e => by have := HF.out _ _ e; have := hrow.lt; omega
          have HNE2 := Lib.hid hne2
          clear hne2 hcell hfr
          go_wp2
          go_roundw
          case rel => exact ⟨A11, c11, R - D * gk, k, (k : Int) - 1, zs.set k gk, by omega, rfl, rfl, rfl, (L11.out.get (by simp)).set_other HNE2.out _ _, HNE2.out, hrow2.set_int rfl, by simp only [List.length_set]; exact HL, HNX.out gk HS.out, HB2.out.setCell (by simp) _⟩
          case measure => simp [intOf]
end Go.Proofs.Ytceningojnfgpaa
