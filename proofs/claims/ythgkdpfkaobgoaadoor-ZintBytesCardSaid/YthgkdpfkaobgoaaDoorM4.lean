import Derived.Test.YthgkdpfkaobgoaaDoorM3
import Derived.Test.YthgkdpfkaobgoaaDoorM2
import Derived.Test.YthgkdpfkaobgoaaDoorM1
section
/-
  zint.sign, Cmp.
-/
namespace Go.Proofs.YthgkdpfkaobgoaaDoor
open Go.RowKit
set_option maxHeartbeats 1000000 in
set_option maxRecDepth 100000 in
theorem sign_n (A : Option Addr) (n c : Nat) (t : Bool) (q : Int) (w : World) (h0 : n = 0 → q = 0) (h1 : n ≠ 0 → q = if t then -1 else 1) :
    Calls Tryd.prog 57 #[.agg #[.slice A n c, .bool t]] w fun e w' => e = .returned (.int .i64 q) ∧ Below w.heap.size w w' := by
  by_cases hn : n = 0
  · obtain rfl := h0 hn
    have hq : ((n : Int) == 0) = true := by rw [hn]; rfl
    clear h0 h1 hn
    go_enter Tryd.func57, Tryd.ntmps57
    go_wp2_with fail
    refine (zero_any A n c _ true hq).mono ?_
    rintro e w1 ⟨rfl, hb⟩
    have HB := Lib.hid ((below1 w _).trans (hb.mono (by simp)))
    obtain ⟨hc, hf⟩ := bcell hb
    clear hb
    go_wp2
    go_ret
    exact ⟨rfl, HB.out⟩
  · obtain rfl := h1 hn
    have hq : ((n : Int) == 0) = false := by simp [hn]
    clear h0 h1 hn
    cases t
    all_goals
      go_enter Tryd.func57, Tryd.ntmps57
      go_wp2_with fail
      refine (zero_any A n c _ false hq).mono ?_
      rintro e w1 ⟨rfl, hb⟩
      have HB := Lib.hid ((below1 w _).trans (hb.mono (by simp)))
      obtain ⟨hc, hf⟩ := bcell hb
      clear hb
      go_wp2
      go_ret
      exact ⟨rfl, HB.out⟩
theorem sign_sg {s t : Bool} {x : Nat} (h : (s && decide (0 < x)) = t) : ((digs x).length = 0 → Int.sign (sg s x) = 0) ∧ ((digs x).length ≠ 0 → Int.sign (sg s x) = if t then -1 else 1) := by
  subst h
  rcases Nat.eq_zero_or_pos x with h0 | h0
  · subst h0
    refine ⟨fun _ => ?_, fun h => absurd (by rw [digs_zero]; rfl) h⟩
    unfold sg; cases s <;> rfl
  · refine ⟨fun h => absurd (digs_nil.1 h) (by omega), fun _ => ?_⟩
    unfold sg
    cases s
    · simp [h0]
    · simp [h0]
theorem sign_bd (z : Int) : -1 ≤ Int.sign z ∧ Int.sign z ≤ 1 := by
  rcases Int.lt_trichotomy z 0 with h | h | h
  · rw [Int.sign_eq_neg_one_of_neg h]; omega
  · subst h; decide
  · rw [Int.sign_eq_one_of_pos h]; omega
theorem sign_three (z : Int) : (z < 0 ∧ Int.sign z = -1) ∨ (z = 0 ∧ Int.sign z = 0) ∨ (0 < z ∧ Int.sign z = 1) := by
  rcases Int.lt_trichotomy z 0 with h | h | h
  · exact .inl ⟨h, Int.sign_eq_neg_one_of_neg h⟩
  · subst h; exact .inr (.inl ⟨rfl, rfl⟩)
  · exact .inr (.inr ⟨h, Int.sign_eq_one_of_pos h⟩)
theorem sign_lt {X Y : Int} (h : Int.sign X < Int.sign Y) : -1 = Int.sign (X - Y) := by
  have := sign_three X; have := sign_three Y; have := sign_three (X - Y); omega
theorem sign_gt {X Y : Int} (h : Int.sign Y < Int.sign X) : 1 = Int.sign (X - Y) := by
  have := sign_three X; have := sign_three Y; have := sign_three (X - Y); omega
theorem cmpi_three (x y : Nat) : (x < y ∧ cmpi x y = -1) ∨ (x = y ∧ cmpi x y = 0) ∨ (y < x ∧ cmpi x y = 1) := by
  rcases Nat.lt_trichotomy x y with h | h | h
  · exact .inl ⟨h, cmpi_lt h⟩
  · exact .inr (.inl ⟨h, cmpi_eq h⟩)
  · exact .inr (.inr ⟨h, cmpi_gt h⟩)
theorem sign_eq {s r : Bool} {x y : Nat} (h : Int.sign (sg s x) = Int.sign (sg r y)) : Int.sign (sg s x) * cmpi x y = Int.sign (sg s x - sg r y) := by
  have h3 := cmpi_three x y
  have h1 := sign_three (sg s x - sg r y)
  have h2 := sign_three (sg s x)
  have h4 := sign_three (sg r y)
  have e1 : sg s x = (x : Int) ∨ sg s x = -(x : Int) := by unfold sg; cases s <;> simp
  have e2 : sg r y = (y : Int) ∨ sg r y = -(y : Int) := by unfold sg; cases r <;> simp
  rcases h2 with ⟨ha, hb⟩ | ⟨ha, hb⟩ | ⟨ha, hb⟩ <;> rw [hb] at h ⊢ <;> omega
set_option maxHeartbeats 4000000 in
set_option maxRecDepth 100000 in
theorem zcmp_any (A B : Option Addr) (c d : Nat) (s r : Bool) (xs ys : List Nat) (w : World) (h : Dg w A c xs) (h' : Dg w B d ys) (hl : xs.length ≤ 1000000) (hl' : ys.length ≤ 1000000) :
    Calls Tryd.prog 29 #[.agg #[.bool s, .slice A xs.length c], .agg #[.bool r, .slice B ys.length d]] w fun e w' => e = .returned (.int .i64 (Int.sign (sg s (val xs) - sg r (val ys)))) ∧ Below w.heap.size w w' := by
  have l1 := digs_len_le h.2.1
  have l2 := digs_len_le h'.2.1
  obtain ⟨t1, ht1⟩ : ∃ t, (s && decide (0 < val xs)) = t := ⟨_, rfl⟩
  obtain ⟨t2, ht2⟩ : ∃ t, (r && decide (0 < val ys)) = t := ⟨_, rfl⟩
  have TA := Lib.hid (fun W h => take_any A c s xs W h (by omega))
  have TB := Lib.hid (fun W h => take_any B d r ys W h (by omega))
  have E1 := Lib.hid (sg_take s (val xs))
  have E2 := Lib.hid (sg_take r (val ys))
  rw [ht1] at TA E1
  rw [ht2] at TB E2
  have HT1 := Lib.hid ht1
  have HT2 := Lib.hid ht2
  clear ht1 ht2
  go_enter Tryd.func29, Tryd.ntmps29
  go_upto_region 1 with fail
  have HB0 := Lib.hid (below2 w (.cells #[.bool s, .slice A xs.length c] 24) (.cells #[.bool r, .slice B ys.length d] 24))
  obtain ⟨W, hW⟩ : ∃ W : World, W = ((w.alloc (.cells #[.bool s, .slice A xs.length c] 24)).alloc (.cells #[.bool r, .slice B ys.length d] 24)) := ⟨_, rfl⟩
  have F0 : W.cell? ⟨w.heap.size, 0, none⟩ = some (.bool s) ∧ W.cell? ⟨w.heap.size, 1, none⟩ = some (.slice A xs.length c) ∧ W.cell? ⟨w.heap.size + 1, 0, none⟩ = some (.bool r) ∧ W.cell? ⟨w.heap.size + 1, 1, none⟩ = some (.slice B ys.length d) := by
    rw [hW]
    refine ⟨?_, ?_, ?_, ?_⟩ <;> go_simp
  rw [← hW] at HB0
  rw [← hW]
  have H1 := Lib.hid (h.below HB0.out)
  have H2 := Lib.hid (h'.below HB0.out)
  have hsz : W.heap.size = w.heap.size + 2 := by rw [hW]; simp
  have HW := Lib.hid hW
  clear hW h h'
  have S0 : w.heap.size < W.heap.size := by omega
  have S1 : w.heap.size + 1 < W.heap.size := by omega
  have HZ := Lib.hid hsz
  clear hsz
  refine two_calls (W := W) rfl 8 9 10 11 5 6 (.agg #[.bool s, .slice A xs.length c]) (.agg #[.bool r, .slice B ys.length d])
    (fun u w' => ∃ A' c', u = .agg #[.slice A' (digs (val xs)).length c', .bool t1] ∧ Dg w' A' c' (digs (val xs)))
    (fun u w' => ∃ A' c', u = .agg #[.slice A' (digs (val ys)).length c', .bool t2] ∧ Dg w' A' c' (digs (val ys)))
    #[.slice none 0 0, .bool false] 59 (fun | .agg us => us | _ => #[])
    rfl (by kernel_rfl) (by kernel_rfl) (by decide) (by kernel_rfl) noint2 ?_ ?_ ?_ ?_ ?_ ?_ ?_ ?_ ?_ ?_ (bd0 W) ?_
  · rintro u w1 w2 ⟨A', c', rfl, hd⟩ hk; exact ⟨A', c', rfl, hd.kept hk⟩
  · rintro u w1 w2 ⟨A', c', rfl, hd⟩ hk; exact ⟨A', c', rfl, hd.kept hk⟩
  · intro a v K hF hb hK
    simp only [wpOp, List.getElem?_toArray, List.getElem?_cons_zero, Region.wanted, if_true]
    refine Or.inl ?_
    have e : a.eval (.tmp 2) = .pointer (some ⟨w.heap.size, 0, none⟩) := hF.2.2 2 (by decide)
    obtain ⟨hc, _⟩ := bcell hb
    simp only [Oper.wp, execOp]
    rw [e]
    go_simp
    exact hK
  · intro a v K hF hb hK
    simp only [wpOp, List.getElem?_toArray, List.getElem?_cons_succ, List.getElem?_cons_zero, Region.wanted, if_true]
    refine Or.inl ?_
    have e : a.eval (.tmp 3) = .pointer (some ⟨w.heap.size + 1, 0, none⟩) := hF.2.2 3 (by decide)
    obtain ⟨hc, _⟩ := bcell hb
    simp only [Oper.wp, execOp]
    rw [e]
    go_simp
    exact hK
  · intro a v K hF hb h1 hK
    simp only [wpOp, List.getElem?_toArray, List.getElem?_cons_succ, List.getElem?_cons_zero, Region.wanted, if_true]
    refine Or.inl ?_
    have e : a.eval (.tmp 8) = .agg #[.bool s, .slice A xs.length c] := h1
    simp only [Oper.wp, execOp]
    go_simp
    refine (TA.out v (H1.out.below hb)).mono ?_
    rintro e w1 ⟨A', c', rfl, hd, hbb⟩
    exact hK _ _ ⟨A', c', rfl, hd⟩ hbb
  · intro a v K hF hb h1 hK
    simp only [wpOp, List.getElem?_toArray, List.getElem?_cons_succ, List.getElem?_cons_zero, Region.wanted, if_true]
    refine Or.inl ?_
    have e : a.eval (.tmp 10) = .agg #[.bool r, .slice B ys.length d] := h1
    simp only [Oper.wp, execOp]
    go_simp
    refine (TB.out v (H2.out.below hb)).mono ?_
    rintro e w1 ⟨A', c', rfl, hd, hbb⟩
    exact hK _ _ ⟨A', c', rfl, hd⟩ hbb
  · intro a v K hF hK
    simp only [wpOp, List.getElem?_toArray, List.getElem?_cons_succ, List.getElem?_cons_zero, Region.wanted, if_true]
    refine Or.inl ?_
    simp only [Oper.wp, execOp]
    go_simp
    exact hK
  · intro a v K hF hK
    simp only [wpOp, List.getElem?_toArray, List.getElem?_cons_succ, List.getElem?_cons_zero, Region.wanted, if_true]
    refine Or.inl ?_
    simp only [Oper.wp, execOp]
    go_simp
    exact hK
  · intro a v K g u hF hx hc hR hg hK
    simp only [wpOp, List.getElem?_toArray, List.getElem?_cons_succ, List.getElem?_cons_zero, Region.wanted, if_true]
    refine Or.inl ?_
    obtain ⟨A', c', rfl, hd⟩ := hR
    have e : a.eval (.tmp 5) = .pointer (some ⟨g, 0, none⟩) := hx
    have e' : a.eval (.tmp 9) = _ := hc
    simp only [Oper.wp, execOp]
    rw [e, e']
    have f0 := cell_of_row v g 0 _ _ _ hg
    have f1 := cell_of_row v g 1 _ _ _ hg
    have z0 := frozen_of_row v g 0 _ _ hg
    have z1 := frozen_of_row v g 1 _ _ hg
    go_simp
    exact hK _ (heap_setCell_same _ _ 1 _ _ _ (heap_setCell_same _ _ 0 _ _ _ hg)) (((Only.refl g v).setCell 0 _).setCell 1 _)
  · intro a v K g u hF hx hc hR hg hK
    simp only [wpOp, List.getElem?_toArray, List.getElem?_cons_succ, List.getElem?_cons_zero, Region.wanted, if_true]
    refine Or.inl ?_
    obtain ⟨A', c', rfl, hd⟩ := hR
    have e : a.eval (.tmp 6) = .pointer (some ⟨g, 0, none⟩) := hx
    have e' : a.eval (.tmp 11) = _ := hc
    simp only [Oper.wp, execOp]
    rw [e, e']
    have f0 := cell_of_row v g 0 _ _ _ hg
    have f1 := cell_of_row v g 1 _ _ _ hg
    have z0 := frozen_of_row v g 0 _ _ hg
    have z1 := frozen_of_row v g 1 _ _ hg
    go_simp
    exact hK _ (heap_setCell_same _ _ 1 _ _ _ (heap_setCell_same _ _ 0 _ _ _ hg)) (((Only.refl g v).setCell 0 _).setCell 1 _)
  · intro a v g1 g2 u1 u2 hF hb h1 h2 hne
    obtain ⟨hl1, hc1, hx1⟩ := h1
    obtain ⟨hl2, hc2, hx2⟩ := h2
    obtain ⟨ec1, A1, c1, rfl, hd1⟩ := hc1 rfl
    obtain ⟨ec2, A2, c2, rfl, hd2⟩ := hc2 rfl
    obtain ⟨ex1, hg1, hs1, hh1⟩ := hx1 rfl
    obtain ⟨ex2, hg2, hs2, hh2⟩ := hx2 rfl
    rw [hF.eq (by kernel_rfl) (hl1 rfl) ec1 (hl2 rfl) ec2 ex1 ex2]
    simp only [if_true] at hh1 hh2
    have HF := Lib.hid (And.intro (cell_of_row v g1 0 _ _ _ hh1) (And.intro (cell_of_row v g1 1 _ _ _ hh1) (And.intro (cell_of_row v g2 0 _ _ _ hh2) (cell_of_row v g2 1 _ _ _ hh2))))
    have KB := Lib.hid hb
    have D1 := Lib.hid hd1
    have D2 := Lib.hid hd2
    clear hF hb hl1 hc1 hx1 hl2 hc2 hx2 ec1 ec2 ex1 ex2 hh1 hh2 hd1 hd2 hne
    simp only [Act.put, List.setIfInBounds_toArray, List.set_cons_zero, List.set_cons_succ]
    clear TA TB
    have P1 := Lib.hid (sign_sg HT1.out)
    have P2 := Lib.hid (sign_sg HT2.out)
    have Q1 := sign_bd (sg s (val xs))
    have Q2 := sign_bd (sg r (val ys))
    have X1 := Lib.hid (fun h => @sign_lt (sg s (val xs)) (sg r (val ys)) h)
    have X2 := Lib.hid (fun h => @sign_gt (sg s (val xs)) (sg r (val ys)) h)
    have X3 := Lib.hid (fun h => @sign_eq s r (val xs) (val ys) h)
    generalize Int.sign (sg s (val xs)) = q1 at *
    generalize Int.sign (sg r (val ys)) = q2 at *
    have HFX := HF
    obtain ⟨f1, f2, f3, f4⟩ := HF.out
    simp only [List.getElem?_toArray, List.getElem?_cons_zero, List.getElem?_cons_succ] at f1 f2 f3 f4
    have S2 := Lib.hid (HB0.out.trans (KB.out.mono HB0.out.size))
    go_wp2_with fail
    refine (sign_n A1 _ c1 t1 q1 _ P1.out.1 P1.out.2).mono ?_
    rintro e v1 ⟨rfl, hb⟩
    have K1 := Lib.hid hb
    clear hb f1 f2 f3 f4
    have f1 := (K1.out.cell (p := ⟨g1, 0, none⟩) hs1).trans HFX.out.1
    have f2 := (K1.out.cell (p := ⟨g1, 1, none⟩) hs1).trans HFX.out.2.1
    have f3 := (K1.out.cell (p := ⟨g2, 0, none⟩) hs2).trans HFX.out.2.2.1
    have f4 := (K1.out.cell (p := ⟨g2, 1, none⟩) hs2).trans HFX.out.2.2.2
    simp only [List.getElem?_toArray, List.getElem?_cons_zero, List.getElem?_cons_succ] at f1 f2 f3 f4
    go_wp2_with fail
    refine (sign_n A2 _ c2 t2 q2 _ P2.out.1 P2.out.2).mono ?_
    rintro e v2 ⟨rfl, hb⟩
    have K2 := Lib.hid (K1.out.trans (hb.mono K1.out.size))
    clear hb f1 f2 f3 f4
    have f1 := (K2.out.cell (p := ⟨g1, 0, none⟩) hs1).trans HFX.out.1
    have f2 := (K2.out.cell (p := ⟨g1, 1, none⟩) hs1).trans HFX.out.2.1
    have f3 := (K2.out.cell (p := ⟨g2, 0, none⟩) hs2).trans HFX.out.2.2.1
    have f4 := (K2.out.cell (p := ⟨g2, 1, none⟩) hs2).trans HFX.out.2.2.2
    simp only [List.getElem?_toArray, List.getElem?_cons_zero, List.getElem?_cons_succ] at f1 f2 f3 f4
    by_cases hlt : q1 < q2
    · have dd : decide (q1 < q2) = true := by simp [hlt]
      go_wp2
      go_ret
      exact ⟨ret_i (X1.out hlt), S2.out.trans (K2.out.mono S2.out.size)⟩
    · have dd : decide (q1 < q2) = false := by simp; omega
      go_wp2_with fail
      refine (sign_n A2 _ c2 t2 q2 _ P2.out.1 P2.out.2).mono ?_
      rintro e v3 ⟨rfl, hb⟩
      have K3 := Lib.hid (K2.out.trans (hb.mono K2.out.size))
      clear hb f1 f2 f3 f4
      have f1 := (K3.out.cell (p := ⟨g1, 0, none⟩) hs1).trans HFX.out.1
      have f2 := (K3.out.cell (p := ⟨g1, 1, none⟩) hs1).trans HFX.out.2.1
      have f3 := (K3.out.cell (p := ⟨g2, 0, none⟩) hs2).trans HFX.out.2.2.1
      have f4 := (K3.out.cell (p := ⟨g2, 1, none⟩) hs2).trans HFX.out.2.2.2
      simp only [List.getElem?_toArray, List.getElem?_cons_zero, List.getElem?_cons_succ] at f1 f2 f3 f4
      by_cases hgt : q2 < q1
      · have dd2 : decide (q2 < q1) = true := by simp [hgt]
        go_wp2
        go_ret
        exact ⟨ret_i (X2.out hgt), S2.out.trans (K3.out.mono S2.out.size)⟩
      · have dd2 : decide (q2 < q1) = false := by simp; omega
        have X4 := Lib.hid (X3.out (by omega))
        have Y := cmpi_three (val xs) (val ys)
        have Y1 : -1 ≤ cmpi (val xs) (val ys) ∧ cmpi (val xs) (val ys) ≤ 1 := by omega
        clear Y
        generalize hqq : cmpi (val xs) (val ys) = q3 at *
        have HQ := Lib.hid hqq
        clear hqq
        have Y2 : q1 * q3 = -1 ∨ q1 * q3 = 0 ∨ q1 * q3 = 1 := by
          have : q1 = -1 ∨ q1 = 0 ∨ q1 = 1 := by omega
          rcases this with e | e | e <;> rw [e] <;> omega
        have Y3 : -1 ≤ q1 * q3 ∧ q1 * q3 ≤ 1 := by omega
        clear Y2
        obtain ⟨Y4, Y5⟩ := Y3
        go_wp2_with fail
        refine (against_any A1 A2 c1 c2 (val xs) (val ys) q3 _ (D1.out.below K3.out) (D2.out.below K3.out) (by omega) (by omega) HQ.out).mono ?_
        rintro e v4 ⟨rfl, hb⟩
        have K4 := Lib.hid (K3.out.trans (hb.mono K3.out.size))
        clear hb f1 f2 f3 f4
        go_wp2
        go_ret
        exact ⟨ret_i X4.out, S2.out.trans (K4.out.mono S2.out.size)⟩
end Go.Proofs.YthgkdpfkaobgoaaDoor
end

section
/-
  A region that draws its order: its operands in whatever order (loads, calls, new boxes), then its stores in the one order that is left.
-/
namespace Go.Proofs.YthgkdpfkaobgoaaDoor
open Go.RowKit
section
variable {P : Program} {ops : Array Oper} {Q : Exit → Act → World → Prop} {md : Region.Mode}
/-- Number i waits for number k, by others. -/
def waitsT (md : Region.Mode) (ops : Array Oper) : Nat → Nat → Nat → Bool
  | 0, _, _ => false
  | f + 1, i, k => waitsB md ops i k || (List.range ops.size).any fun m => waitsB md ops i m && waitsT md ops f m k
/-- What is listed has all listed that it waits for. -/
def Down (md : Region.Mode) (ops : Array Oper) (l : Array Bool) : Prop := ∀ j, l.getD j false = true → ∀ k, waitsB md ops j k = true → l.getD k false = true
theorem Down.set {l : Array Bool} (h : Down md ops l) {i : Nat} (hi : i ∈ Region.ready md ops l) : Down md ops (l.setIfInBounds i true) := by
  intro j hj k hk
  by_cases hji : i = j
  · subst hji; exact getD_set_true (waits_spec hk hi)
  · rw [getD_set_ne false hji] at hj; exact getD_set_true (h j hj k hk)
theorem Down.through {l : Array Bool} (h : Down md ops l) : ∀ (f j k : Nat), l.getD j false = true → waitsT md ops f j k = true → l.getD k false = true
  | 0, _, _, _, hw => by cases hw
  | f + 1, j, k, hj, hw => by
    simp only [waitsT, Bool.or_eq_true, List.any_eq_true, Bool.and_eq_true] at hw
    rcases hw with hw | ⟨m, _, h1, h2⟩
    · exact h j hj k hw
    · exact h.through f m k (h j hj m h1) h2
theorem Down.ready {l : Array Bool} (h : Down md ops l) {f i k : Nat} (hi : i ∈ Region.ready md ops l) (hw : waitsT md ops f i k = true) : l.getD k false = true := by
  cases f with
  | zero => cases hw
  | succ f =>
    simp only [waitsT, Bool.or_eq_true, List.any_eq_true, Bool.and_eq_true] at hw
    rcases hw with hw | ⟨m, _, h1, h2⟩
    · exact waits_spec hw hi
    · exact h.through f m k (waits_spec h1 hi) h2
/-- Each from n0 on waits for all ahead of it. -/
def tailB (md : Region.Mode) (ops : Array Oper) (n0 : Nat) : Bool := (List.range ops.size).all fun i => decide (i < n0) || (List.range i).all fun k => waitsT md ops ops.size i k
def tails (m : Nat) : Nat → List Nat
  | 0 => []
  | n + 1 => m :: tails (m + 1) n
theorem wpAny_phase {n0 : Nat} (I : Array Bool → Act → World → Prop) (hn : n0 ≤ ops.size) (hb : backB md ops = true) (ht : tailB md ops n0 = true)
    (step : ∀ l a w i, I l a w → l.size = ops.size → i < n0 → i ∈ Region.ready md ops l → wpOp P ops Q i (fun a' w' => I (l.setIfInBounds i true) a' w') a w)
    (fin : ∀ l a w, I l a w → l.size = ops.size → (∀ i, i < n0 → l.getD i false = true) → wpOps P ops Q (tails n0 (ops.size - n0)) a w) {a : Act} {w : World}
    (h : I (Array.replicate ops.size false) a w) : wpAny P md ops Q ops.size (Array.replicate ops.size false) a w := by
  have z : ∀ j, (Array.replicate ops.size false).getD j false = false := by intro j; simp [Array.getElem?_replicate]; split <;> rfl
  have hwt : ∀ i, n0 ≤ i → i < ops.size → ∀ k, k < i → waitsT md ops ops.size i k = true := by
    intro i h1 h2 k hk
    simp only [tailB, List.all_eq_true, List.mem_range, Bool.or_eq_true, decide_eq_true_eq] at ht
    rcases ht i h2 with h3 | h3
    · omega
    · exact h3 k hk
  refine wpAny_inv (fun l a w => l.size = ops.size ∧ Down md ops l ∧ (((∀ k, n0 ≤ k → l.getD k false = false) ∧ I l a w) ∨ ∃ m, n0 ≤ m ∧ m ≤ ops.size ∧ (∀ k, k < m → l.getD k false = true) ∧ (∀ k, m ≤ k → l.getD k false = false) ∧ wpOps P ops Q (tails m (ops.size - m)) a w)) ?_ ?_ _ _ _ _ ⟨by simp, fun j hj => absurd hj (by rw [z]; simp), .inl ⟨fun k _ => z k, h⟩⟩ (by simp [still])
  · rintro l a w i ⟨hl, hd, hor⟩ hi
    have hiu := (mem_ready.1 hi).1
    have hin : i < ops.size := by
      rcases Nat.lt_or_ge i l.size with h' | h'
      · omega
      · simp [Array.getElem?_eq_none h'] at hiu
    have hif : l.getD i false = false := by
      have : i < l.size := by omega
      simp [this] at hiu ⊢; exact hiu
    have sz : ∀ j, (l.setIfInBounds i true).getD j false = (if i = j then true else l.getD j false) := fun j => getD_set l i j (by omega)
    have key : ∀ m, n0 ≤ m → m ≤ ops.size → (∀ k, k < m → l.getD k false = true) → (∀ k, m ≤ k → l.getD k false = false) → wpOps P ops Q (tails m (ops.size - m)) a w → i = m ∧ wpOp P ops Q i (fun a' w' => wpOps P ops Q (tails (m + 1) (ops.size - (m + 1))) a' w') a w := by
      intro m h1 h2 h3 h4 h5
      have him : i = m := by
        rcases Nat.lt_trichotomy i m with h6 | h6 | h6
        · rw [h3 i h6] at hif; cases hif
        · exact h6
        · have := hd.ready hi (hwt i (by omega) hin m h6)
          rw [h4 m (Nat.le_refl _)] at this; cases this
      subst him
      refine ⟨rfl, ?_⟩
      have e : ops.size - i = (ops.size - (i + 1)) + 1 := by omega
      rw [e] at h5
      simp only [tails, wpOps_cons] at h5
      exact h5
    have fin2 : ∀ m, n0 ≤ m → m ≤ ops.size → (∀ k, k < m → l.getD k false = true) → (∀ k, m ≤ k → l.getD k false = false) → wpOps P ops Q (tails m (ops.size - m)) a w → wpOp P ops Q i (fun a' w' => (l.setIfInBounds i true).size = ops.size ∧ Down md ops (l.setIfInBounds i true) ∧ (((∀ k, n0 ≤ k → (l.setIfInBounds i true).getD k false = false) ∧ I (l.setIfInBounds i true) a' w') ∨ ∃ m, n0 ≤ m ∧ m ≤ ops.size ∧ (∀ k, k < m → (l.setIfInBounds i true).getD k false = true) ∧ (∀ k, m ≤ k → (l.setIfInBounds i true).getD k false = false) ∧ wpOps P ops Q (tails m (ops.size - m)) a' w')) a w := by
      intro m h1 h2 h3 h4 h5
      obtain ⟨rfl, h6⟩ := key m h1 h2 h3 h4 h5
      refine wpOp_mono (fun a' w' h7 => ⟨by simpa using hl, hd.set hi, .inr ⟨i + 1, by omega, hin, fun k hk => ?_, fun k hk => ?_, h7⟩⟩) h6
      · rw [sz]; split
        · rfl
        · exact h3 k (by omega)
      · rw [sz, if_neg (by omega)]; exact h4 k (by omega)
    rcases hor with ⟨hno, hI⟩ | ⟨m, h1, h2, h3, h4, h5⟩
    · rcases Nat.lt_or_ge i n0 with hlt | hge
      · refine wpOp_mono (fun a' w' h7 => ⟨by simpa using hl, hd.set hi, .inl ⟨fun k hk => ?_, h7⟩⟩) (step l a w i hI hl hlt hi)
        rw [sz, if_neg (by omega)]; exact hno k hk
      · have h3 : ∀ k, k < n0 → l.getD k false = true := fun k hk => hd.ready hi (hwt i hge hin k (by omega))
        exact fin2 n0 (Nat.le_refl _) hn h3 hno (fin l a w hI hl h3)
    · exact fin2 m h1 h2 h3 h4 h5
  · rintro l a w ⟨hl, hd, hor⟩ hr
    have hall := all_of_back hb hl hr
    rcases hor with ⟨hno, hI⟩ | ⟨m, h1, h2, h3, h4, h5⟩
    · have hnn : n0 = ops.size := by
        rcases Nat.lt_or_ge n0 ops.size with h' | h'
        · have := hall n0 h'; rw [hno n0 (Nat.le_refl _)] at this; cases this
        · omega
      have := fin l a w hI hl (fun i hi => hall i (by omega))
      rw [hnn, Nat.sub_self] at this
      simpa [tails, wpOps] using this
    · have hnn : m = ops.size := by
        rcases Nat.lt_or_ge m ops.size with h' | h'
        · have := hall m h'; rw [h4 m (Nat.le_refl _)] at this; cases this
        · omega
      rw [hnn, Nat.sub_self] at h5
      simpa [tails, wpOps] using h5
/-- All slots but those of D are as they were, and are so when these are put anew. -/
theorem Fr6.fold {D : List Tmp} {a0 a : Act} (h : Fr6 D a0 a) (hin : (D.all fun t => decide (t < a0.tmps.size)) = true) : a = D.foldl (fun b t => b.put (some t) (a.tmps.getD t undef)) a0 := by
  have key : ∀ (D : List Tmp) (b : Act), (D.all fun t => decide (t < b.tmps.size)) = true → b.defers = a.defers → b.tmps.size = a.tmps.size → (∀ j, j ∉ D → a.tmps.getD j undef = b.tmps.getD j undef) → a = D.foldl (fun b t => b.put (some t) (a.tmps.getD t undef)) b := by
    intro D
    induction D with
    | nil => intro b _ h1 h2 h3; exact act_ext h1.symm h2.symm (fun j => h3 j (by simp))
    | cons t D ih =>
      intro b h0 h1 h2 h3
      simp only [List.all_cons, Bool.and_eq_true, decide_eq_true_eq] at h0
      rw [List.foldl_cons]
      refine ih _ ?_ (by rw [put_defers]; exact h1) (by rw [put_size]; exact h2) (fun j hj => ?_)
      · rw [List.all_eq_true] at h0 ⊢
        intro x hx; rw [put_size]; exact h0.2 x hx
      · exact put_at j h0.1 rfl (fun hne => h3 j (by simp [hne, hj]))
  exact key D a0 hin h.1.symm h.2.1.symm h.2.2
/-- Loads, calls and new boxes in whatever order; behind them the stores. -/
theorem wp_operands {id : Nat} {a0 : Act} {W : World} (hm : P.follows .mixedOrders = true) (n0 : Nat) (D : List Tmp) (R : Nat → Value → World → Prop) (al : Nat → Bool)
    (hn : n0 ≤ ops.size) (hD : D.length = n0) (hb : backB .any ops = true) (ht : tailB .any ops n0 = true) (hnd : D.Nodup) (hin : (D.all fun t => decide (t < a0.tmps.size)) = true)
    (st : ∀ i u w w', i < n0 → R i u w → Below w.heap.size w w' → R i u w')
    (hal : ∀ i u w, al i = true → R i u w → ∃ g, u = .pointer (some ⟨g, 0, none⟩) ∧ g < w.heap.size)
    (step : ∀ i a w K, i < n0 → Fr6 D a0 a → Below W.heap.size W w → (∀ k, waitsB .any ops i k = true → R k (a.tmps.getD (D.getD k 0) undef) w) →
      (∀ u w', R i u w' → Below w.heap.size w w' → (al i = true → u = .pointer (some ⟨w.heap.size, 0, none⟩)) → K (a.put (some (D.getD i 0)) u) w') → wpOp P ops Q i K a w)
    (fin : ∀ a w, Fr6 D a0 a → Below W.heap.size W w → (∀ i, i < n0 → R i (a.tmps.getD (D.getD i 0) undef) w) → (∀ i j, i < n0 → j < n0 → i ≠ j → al i = true → al j = true → a.tmps.getD (D.getD i 0) undef ≠ a.tmps.getD (D.getD j 0) undef) →
      wpOps P ops Q (tails n0 (ops.size - n0)) a w) : (Code.region id ops true).wp P Q a0 W := by
  have hmem : ∀ i, i < n0 → D.getD i 0 ∈ D := fun i hi => by rw [List.getD_eq_getElem?_getD, List.getElem?_eq_getElem (by omega)]; exact List.getElem_mem _
  have hlt : ∀ i, i < n0 → D.getD i 0 < a0.tmps.size := fun i hi => by
    rw [List.all_eq_true] at hin
    simpa using hin _ (hmem i hi)
  have hne : ∀ i j, i < n0 → j < n0 → i ≠ j → D.getD i 0 ≠ D.getD j 0 := fun i j hi hj h e => by
    rw [List.getD_eq_getElem?_getD, List.getD_eq_getElem?_getD, List.getElem?_eq_getElem (by omega), List.getElem?_eq_getElem (by omega)] at e
    exact h ((List.getElem_inj hnd).1 (by simpa using e))
  have hwk : ∀ l : Array Bool, l.size = ops.size → ∀ i k, i ∈ Region.ready .any ops l → waitsB .any ops i k = true → i < n0 → k < n0 := by
    intro l hl i k hi hk hi0
    have hlt : i < ops.size := by omega
    simp only [backB, List.all_eq_true, List.mem_range] at hb
    have h1 := hb i hlt
    simp only [Array.getElem?_eq_getElem hlt, Option.map_some, Option.getD_some, Array.all_eq_true_iff_forall_mem] at h1
    simp only [waitsB, Array.getElem?_eq_getElem hlt, Option.map_some, Option.getD_some, Array.any_eq_true'] at hk
    obtain ⟨e, he, h2⟩ := hk
    simp only [Bool.and_eq_true, beq_iff_eq] at h2
    have h3 := h1 e he
    simp only [h2.1, Bool.not_true, Bool.false_or, decide_eq_true_eq] at h3
    omega
  have z : ∀ j, (Array.replicate ops.size false).getD j false = false := by intro j; simp [Array.getElem?_replicate]; split <;> rfl
  refine wp_region_any hm (wpAny_phase (fun l a w => Fr6 D a0 a ∧ Below W.heap.size W w ∧ (∀ i, i < n0 → l.getD i false = true → R i (a.tmps.getD (D.getD i 0) undef) w) ∧
    (∀ i j, i < n0 → j < n0 → i ≠ j → l.getD i false = true → l.getD j false = true → al i = true → al j = true → a.tmps.getD (D.getD i 0) undef ≠ a.tmps.getD (D.getD j 0) undef)) hn hb ht ?_ ?_ ⟨⟨rfl, rfl, fun _ _ => rfl⟩, ⟨rfl, rfl, rfl, Nat.le_refl _, fun _ _ => rfl⟩, fun i _ hi => absurd hi (by rw [z]; simp), fun i j _ _ _ hi => absurd hi (by rw [z]; simp)⟩)
  · rintro l a w i ⟨hF, hbw, hR, hA⟩ hl hi0 hi
    have sz : ∀ j, (l.setIfInBounds i true).getD j false = (if i = j then true else l.getD j false) := fun j => getD_set l i j (by omega)
    have ps : a.tmps.size = a0.tmps.size := hF.2.1
    refine step i a w _ hi0 hF hbw (fun k hk => hR k (hwk l hl i k hi hk hi0) (waits_spec hk hi)) (fun u w' hu hbb hua => ⟨hF.put (hmem i hi0) _, hbw.trans (hbb.mono hbw.size), fun j hj hjl => ?_, fun j k hj hk hjk hjl hkl haj hak => ?_⟩)
    · by_cases hij : i = j
      · subst hij; rw [put_same _ _ _ (by rw [ps]; exact hlt i hi0)]; exact hu
      · rw [sz, if_neg hij] at hjl
        rw [put_other _ _ _ _ (hne i j hi0 hj hij)]
        exact st j _ _ _ hj (hR j hj hjl) hbb
    · by_cases hij : i = j
      · subst hij
        rw [put_same _ _ _ (by rw [ps]; exact hlt i hi0), put_other _ _ _ _ (hne i k hi0 hk hjk)]
        rw [sz, if_neg hjk] at hkl
        obtain ⟨g, e, hg⟩ := hal k _ _ hak (hR k hk hkl)
        rw [e, hua haj]; intro e2; injection e2 with e2; injection e2 with e2; injection e2 with e2; omega
      · rw [sz, if_neg hij] at hjl
        rw [put_other _ _ _ _ (hne i j hi0 hj hij)]
        by_cases hik : i = k
        · subst hik
          rw [put_same _ _ _ (by rw [ps]; exact hlt i hi0)]
          obtain ⟨g, e, hg⟩ := hal j _ _ haj (hR j hj hjl)
          rw [e, hua hak]; intro e2; injection e2 with e2; injection e2 with e2; injection e2 with e2; omega
        · rw [sz, if_neg hik] at hkl
          rw [put_other _ _ _ _ (hne i k hi0 hk hik)]
          exact hA j k hj hk hjk hjl hkl haj hak
  · rintro l a w ⟨hF, hbw, hR, hA⟩ _ hall
    exact fin a w hF hbw (fun i hi => hR i hi (hall i hi)) (fun i j hi hj hij h1 h2 => hA i j hi hj hij (hall i hi) (hall j hj) h1 h2)
end
end Go.Proofs.YthgkdpfkaobgoaaDoor
end

section
/-
  zint.Div.
-/
namespace Go.Proofs.YthgkdpfkaobgoaaDoor
open Go.RowKit
theorem cells_of {w : World} {g : Nat} {cs : Array Value} {t : TypeId} {fr : Nat × Nat} (hg : w.heap[g]? = some (.cells cs t fr)) {w' : World} (hb : Below w.heap.size w w') : w'.heap[g]? = some (.cells cs t fr) := (hb.block g (heap_lt hg)).trans hg
/-- Quotient and rest, rounded down. -/
theorem fd_same {t : Bool} {x y : Nat} : sg false (x / y) = Int.fdiv (sg t x) (sg t y) ∧ sg t (x % y) = Int.fmod (sg t x) (sg t y) := by
  have e1 : Int.fdiv (x : Int) (y : Int) = ((x / y : Nat) : Int) := by rw [Int.fdiv_eq_ediv_of_nonneg _ (by omega)]; exact (Int.natCast_ediv x y).symm
  have e2 : Int.fmod (x : Int) (y : Int) = ((x % y : Nat) : Int) := by rw [Int.fmod_eq_emod_of_nonneg _ (by omega)]; exact (Int.natCast_emod x y).symm
  cases t
  · exact ⟨e1.symm, e2.symm⟩
  · simp only [sg, if_true, Bool.false_eq_true, if_false]
    have f1 : Int.fdiv (-(x : Int)) (-(y : Int)) = Int.fdiv x y := by rw [Int.neg_fdiv_neg]
    have f2 := Int.mul_fdiv_add_fmod (-(x : Int)) (-(y : Int))
    have f3 := Int.mul_fdiv_add_fmod (x : Int) (y : Int)
    rw [f1, e1] at f2
    rw [e1, e2] at f3
    rw [f1, e1]
    refine ⟨rfl, ?_⟩
    rw [Int.neg_mul] at f2
    omega
theorem fd_exact {t1 t2 : Bool} (h : (t1 != t2) = true) {x y : Nat} (hy : y ≠ 0) (hk : x % y = 0) : sg true (x / y) = Int.fdiv (sg t1 x) (sg t2 y) ∧ sg t2 (x % y) = Int.fmod (sg t1 x) (sg t2 y) := by
  obtain ⟨k, rfl⟩ : ∃ k, x = y * k := ⟨x / y, by have := Nat.div_add_mod x y; omega⟩
  rw [Nat.mul_div_cancel_left _ (by omega), Nat.mul_mod_right]
  have hy' : (y : Int) ≠ 0 := by omega
  have hy2 : -(y : Int) ≠ 0 := by omega
  have s0 : sg t2 0 = 0 := by unfold sg; cases t2 <;> rfl
  rw [s0]
  have key : sg t1 (y * k) = sg t2 y * (-(k : Int)) := by
    unfold sg; cases t1 <;> cases t2 <;> simp at h ⊢ <;> simp [Int.mul_neg, Int.neg_mul]
  have hne : sg t2 y ≠ 0 := by unfold sg; cases t2 <;> simp <;> omega
  rw [key, Int.mul_fdiv_cancel_left _ hne]
  refine ⟨by unfold sg; simp, ?_⟩
  have := Int.mul_fdiv_add_fmod (sg t2 y * (-(k : Int))) (sg t2 y)
  rw [Int.mul_fdiv_cancel_left _ hne] at this
  omega
theorem fd_more {t1 t2 : Bool} (h : (t1 != t2) = true) {x y : Nat} (hy : y ≠ 0) (hk : x % y ≠ 0) : sg true (x / y + 1) = Int.fdiv (sg t1 x) (sg t2 y) ∧ sg t2 (y - x % y) = Int.fmod (sg t1 x) (sg t2 y) := by
  have hd := Nat.div_add_mod x y
  have hlt := Nat.mod_lt x (Nat.pos_of_ne_zero hy)
  generalize x / y = q at *
  generalize x % y = r at *
  subst hd
  have key : ∀ (a b qq rr : Int), b ≠ 0 → a = b * qq + rr → ((0 ≤ rr ∧ rr < b) ∨ (b < rr ∧ rr ≤ 0)) → qq = Int.fdiv a b ∧ rr = Int.fmod a b := by
    intro a b qq rr hb e hr
    subst e
    have e1 : Int.fdiv (b * qq + rr) b = qq + Int.fdiv rr b := by rw [Int.add_comm, Int.add_mul_fdiv_left _ _ hb, Int.add_comm]
    have e2 : Int.fdiv rr b = 0 := by
      rcases hr with ⟨h1, h2⟩ | ⟨h1, h2⟩
      · rw [Int.fdiv_eq_ediv_of_nonneg _ (by omega)]; exact Int.ediv_eq_zero_of_lt h1 h2
      · rw [← Int.neg_fdiv_neg, Int.fdiv_eq_ediv_of_nonneg _ (by omega)]; exact Int.ediv_eq_zero_of_lt (by omega) (by omega)
    have e3 := Int.mul_fdiv_add_fmod (b * qq + rr) b
    rw [e1, e2, Int.add_zero] at e3
    exact ⟨by rw [e1, e2, Int.add_zero], by omega⟩
  have hr1 : ((y - r : Nat) : Int) = (y : Int) - (r : Int) := by omega
  cases t1 <;> cases t2 <;> simp at h
  · simp only [sg, if_true, Bool.false_eq_true, if_false]
    refine key _ _ _ _ (by omega) ?_ (by omega)
    rw [hr1]; push_cast; rw [Int.neg_mul_neg, Int.mul_add]; omega
  · simp only [sg, if_true, Bool.false_eq_true, if_false]
    refine key _ _ _ _ (by omega) ?_ (by omega)
    rw [hr1]; push_cast; rw [Int.mul_neg, Int.mul_add]; omega
theorem len_ne {n : Nat} (h : n ≠ 0) : ((n : Int) == 0) = false := by simp [h]
theorem below4 (w : World) (o1 o2 o3 o4 : Obj) : Below w.heap.size w ((((w.alloc o1).alloc o2).alloc o3).alloc o4) := (below3 w o1 o2 o3).alloc (by simp; omega) _
/-- Two whole numbers, and true. -/
def Zr2 (q r : Int) (w : World) (e : Ending) (w' : World) : Prop := ∃ A c B d, e = .returned (.tuple #[.agg #[.bool (decide (q < 0)), .slice A (digs q.natAbs).length c], .agg #[.bool (decide (r < 0)), .slice B (digs r.natAbs).length d], .bool true]) ∧ Dg w' A c (digs q.natAbs) ∧ Dg w' B d (digs r.natAbs) ∧ Below w.heap.size w w'
theorem zr2_give {w w' : World} {A B : Option Addr} {c d m k : Nat} {t u : Bool} {q r : Int} (hq : sg t m = q) (hr : sg u k = r) (hd : Dg w' A c (digs m)) (hd' : Dg w' B d (digs k)) (hb : Below w.heap.size w w') :
    Zr2 q r w (.returned (.tuple #[.agg #[.bool (t && decide (m ≠ 0)), .slice A (digs m).length c], .agg #[.bool (u && decide (k ≠ 0)), .slice B (digs k).length d], .bool true])) w' := by
  have e1 := sg_neg t m
  have e2 := sg_abs t m
  have e3 := sg_neg u k
  have e4 := sg_abs u k
  rw [hq] at e1 e2
  rw [hr] at e3 e4
  rw [e1, e3]
  subst e2 e4
  exact ⟨A, c, B, d, rfl, hd, hd', hb⟩
set_option maxHeartbeats 4000000 in
set_option maxRecDepth 100000 in
theorem zdiv_no (A B : Option Addr) (c d : Nat) (s r : Bool) (xs ys : List Nat) (w : World) (h : Dg w A c xs) (h' : Dg w B d ys) (hl : xs.length ≤ 500000) (hl' : ys.length ≤ 500000) (hy : val ys = 0) :
    Calls Tryd.prog 33 #[.agg #[.bool s, .slice A xs.length c], .agg #[.bool r, .slice B ys.length d]] w fun e w' => e = .returned (.tuple #[.agg #[.bool false, .slice none 0 0], .agg #[.bool false, .slice none 0 0], .bool false]) ∧ Below w.heap.size w w' := by
  have HY := Lib.hid hy
  clear hy
  have l1 := digs_len_le h.2.1
  have l2 := digs_len_le h'.2.1
  obtain ⟨t1, ht1⟩ : ∃ t, (s && decide (0 < val xs)) = t := ⟨_, rfl⟩
  obtain ⟨t2, ht2⟩ : ∃ t, (r && decide (0 < val ys)) = t := ⟨_, rfl⟩
  have TA := Lib.hid (fun W h => take_any A c s xs W h (by omega))
  have TB := Lib.hid (fun W h => take_any B d r ys W h (by omega))
  have E1 := Lib.hid (sg_take s (val xs))
  have E2 := Lib.hid (sg_take r (val ys))
  rw [ht1] at TA E1
  rw [ht2] at TB E2
  have HT1 := Lib.hid ht1
  have HT2 := Lib.hid ht2
  clear ht1 ht2
  go_enter Tryd.func33, Tryd.ntmps33
  go_upto_region 1 with fail
  have HB0 := Lib.hid (below4 w (.cells #[.bool s, .slice A xs.length c] 24) (.cells #[.bool r, .slice B ys.length d] 24) (.cells #[.bool false, .slice none 0 0] 24) (.cells #[.bool false, .slice none 0 0] 24))
  obtain ⟨W, hW⟩ : ∃ W : World, W = ((((w.alloc (.cells #[.bool s, .slice A xs.length c] 24)).alloc (.cells #[.bool r, .slice B ys.length d] 24)).alloc (.cells #[.bool false, .slice none 0 0] 24)).alloc (.cells #[.bool false, .slice none 0 0] 24)) := ⟨_, rfl⟩
  have F0 : W.cell? ⟨w.heap.size, 0, none⟩ = some (.bool s) ∧ W.cell? ⟨w.heap.size, 1, none⟩ = some (.slice A xs.length c) ∧ W.cell? ⟨w.heap.size + 1, 0, none⟩ = some (.bool r) ∧ W.cell? ⟨w.heap.size + 1, 1, none⟩ = some (.slice B ys.length d) := by
    rw [hW]
    refine ⟨?_, ?_, ?_, ?_⟩ <;> go_simp
  rw [← hW] at HB0
  rw [← hW]
  have H1 := Lib.hid (h.below HB0.out)
  have H2 := Lib.hid (h'.below HB0.out)
  have hsz : W.heap.size = w.heap.size + 4 := by rw [hW]; simp
  have HR0 := Lib.hid (show W.heap[w.heap.size + 1 + 1]? = some (.cells #[.bool false, .slice none 0 0] 24 (0, 0)) by rw [hW]; have := heap_alloc_new ((w.alloc (.cells #[.bool s, .slice A xs.length c] 24)).alloc (.cells #[.bool r, .slice B ys.length d] 24)) (.cells #[.bool false, .slice none 0 0] 24); rw [heap_alloc_old _ _ (by simp)]; simpa using this)
  have HR1 := Lib.hid (show W.heap[w.heap.size + 1 + 1 + 1]? = some (.cells #[.bool false, .slice none 0 0] 24 (0, 0)) by rw [hW]; have := heap_alloc_new (((w.alloc (.cells #[.bool s, .slice A xs.length c] 24)).alloc (.cells #[.bool r, .slice B ys.length d] 24)).alloc (.cells #[.bool false, .slice none 0 0] 24)) (.cells #[.bool false, .slice none 0 0] 24); simpa using this)
  have HW := Lib.hid hW
  clear hW h h'
  have S0 : w.heap.size < W.heap.size := by omega
  have S1 : w.heap.size + 1 < W.heap.size := by omega
  have HZ := Lib.hid hsz
  clear hsz
  refine two_calls (W := W) rfl 13 14 15 16 7 8 (.agg #[.bool s, .slice A xs.length c]) (.agg #[.bool r, .slice B ys.length d])
    (fun u w' => ∃ A' c', u = .agg #[.slice A' (digs (val xs)).length c', .bool t1] ∧ Dg w' A' c' (digs (val xs)))
    (fun u w' => ∃ A' c', u = .agg #[.slice A' (digs (val ys)).length c', .bool t2] ∧ Dg w' A' c' (digs (val ys)))
    #[.slice none 0 0, .bool false] 59 (fun | .agg us => us | _ => #[])
    rfl (by kernel_rfl) (by kernel_rfl) (by decide) (by kernel_rfl) noint2 ?_ ?_ ?_ ?_ ?_ ?_ ?_ ?_ ?_ ?_ (bd0 W) ?_
  · rintro u w1 w2 ⟨A', c', rfl, hd⟩ hk; exact ⟨A', c', rfl, hd.kept hk⟩
  · rintro u w1 w2 ⟨A', c', rfl, hd⟩ hk; exact ⟨A', c', rfl, hd.kept hk⟩
  · intro a v K hF hb hK
    simp only [wpOp, List.getElem?_toArray, List.getElem?_cons_zero, Region.wanted, if_true]
    refine Or.inl ?_
    have e : a.eval (.tmp 2) = .pointer (some ⟨w.heap.size, 0, none⟩) := hF.2.2 2 (by decide)
    obtain ⟨hc, _⟩ := bcell hb
    simp only [Oper.wp, execOp]
    rw [e]
    go_simp
    exact hK
  · intro a v K hF hb hK
    simp only [wpOp, List.getElem?_toArray, List.getElem?_cons_succ, List.getElem?_cons_zero, Region.wanted, if_true]
    refine Or.inl ?_
    have e : a.eval (.tmp 3) = .pointer (some ⟨w.heap.size + 1, 0, none⟩) := hF.2.2 3 (by decide)
    obtain ⟨hc, _⟩ := bcell hb
    simp only [Oper.wp, execOp]
    rw [e]
    go_simp
    exact hK
  · intro a v K hF hb h1 hK
    simp only [wpOp, List.getElem?_toArray, List.getElem?_cons_succ, List.getElem?_cons_zero, Region.wanted, if_true]
    refine Or.inl ?_
    have e : a.eval (.tmp 13) = .agg #[.bool s, .slice A xs.length c] := h1
    simp only [Oper.wp, execOp]
    go_simp
    refine (TA.out v (H1.out.below hb)).mono ?_
    rintro e w1 ⟨A', c', rfl, hd, hbb⟩
    exact hK _ _ ⟨A', c', rfl, hd⟩ hbb
  · intro a v K hF hb h1 hK
    simp only [wpOp, List.getElem?_toArray, List.getElem?_cons_succ, List.getElem?_cons_zero, Region.wanted, if_true]
    refine Or.inl ?_
    have e : a.eval (.tmp 15) = .agg #[.bool r, .slice B ys.length d] := h1
    simp only [Oper.wp, execOp]
    go_simp
    refine (TB.out v (H2.out.below hb)).mono ?_
    rintro e w1 ⟨A', c', rfl, hd, hbb⟩
    exact hK _ _ ⟨A', c', rfl, hd⟩ hbb
  · intro a v K hF hK
    simp only [wpOp, List.getElem?_toArray, List.getElem?_cons_succ, List.getElem?_cons_zero, Region.wanted, if_true]
    refine Or.inl ?_
    simp only [Oper.wp, execOp]
    go_simp
    exact hK
  · intro a v K hF hK
    simp only [wpOp, List.getElem?_toArray, List.getElem?_cons_succ, List.getElem?_cons_zero, Region.wanted, if_true]
    refine Or.inl ?_
    simp only [Oper.wp, execOp]
    go_simp
    exact hK
  · intro a v K g u hF hx hc hR hg hK
    simp only [wpOp, List.getElem?_toArray, List.getElem?_cons_succ, List.getElem?_cons_zero, Region.wanted, if_true]
    refine Or.inl ?_
    obtain ⟨A', c', rfl, hd⟩ := hR
    have e : a.eval (.tmp 7) = .pointer (some ⟨g, 0, none⟩) := hx
    have e' : a.eval (.tmp 14) = _ := hc
    simp only [Oper.wp, execOp]
    rw [e, e']
    have f0 := cell_of_row v g 0 _ _ _ hg
    have f1 := cell_of_row v g 1 _ _ _ hg
    have z0 := frozen_of_row v g 0 _ _ hg
    have z1 := frozen_of_row v g 1 _ _ hg
    go_simp
    exact hK _ (heap_setCell_same _ _ 1 _ _ _ (heap_setCell_same _ _ 0 _ _ _ hg)) (((Only.refl g v).setCell 0 _).setCell 1 _)
  · intro a v K g u hF hx hc hR hg hK
    simp only [wpOp, List.getElem?_toArray, List.getElem?_cons_succ, List.getElem?_cons_zero, Region.wanted, if_true]
    refine Or.inl ?_
    obtain ⟨A', c', rfl, hd⟩ := hR
    have e : a.eval (.tmp 8) = .pointer (some ⟨g, 0, none⟩) := hx
    have e' : a.eval (.tmp 16) = _ := hc
    simp only [Oper.wp, execOp]
    rw [e, e']
    have f0 := cell_of_row v g 0 _ _ _ hg
    have f1 := cell_of_row v g 1 _ _ _ hg
    have z0 := frozen_of_row v g 0 _ _ hg
    have z1 := frozen_of_row v g 1 _ _ hg
    go_simp
    exact hK _ (heap_setCell_same _ _ 1 _ _ _ (heap_setCell_same _ _ 0 _ _ _ hg)) (((Only.refl g v).setCell 0 _).setCell 1 _)
  · intro a v g1 g2 u1 u2 hF hb h1 h2 hne
    obtain ⟨hl1, hc1, hx1⟩ := h1
    obtain ⟨hl2, hc2, hx2⟩ := h2
    obtain ⟨ec1, A1, c1, rfl, hd1⟩ := hc1 rfl
    obtain ⟨ec2, A2, c2, rfl, hd2⟩ := hc2 rfl
    obtain ⟨ex1, hg1, hs1, hh1⟩ := hx1 rfl
    obtain ⟨ex2, hg2, hs2, hh2⟩ := hx2 rfl
    rw [hF.eq (by kernel_rfl) (hl1 rfl) ec1 (hl2 rfl) ec2 ex1 ex2]
    simp only [if_true] at hh1 hh2
    have HH := Lib.hid (And.intro hh1 hh2)
    have HF := Lib.hid (And.intro (cell_of_row v g1 0 _ _ _ hh1) (And.intro (cell_of_row v g1 1 _ _ _ hh1) (And.intro (cell_of_row v g2 0 _ _ _ hh2) (cell_of_row v g2 1 _ _ _ hh2))))
    have KB := Lib.hid hb
    have D1 := Lib.hid hd1
    have D2 := Lib.hid hd2
    clear hF hb hl1 hc1 hx1 hl2 hc2 hx2 ec1 ec2 ex1 ex2 hh1 hh2 hd1 hd2 hne
    simp only [Act.put, List.setIfInBounds_toArray, List.set_cons_zero, List.set_cons_succ]
    clear TA TB
    have KC := Lib.hid (HB0.out.trans (KB.out.mono HB0.out.size))
    have z1 : (w.heap.size + 1 + 1 : Nat) < v.heap.size := by have := HZ.out; have := KB.out.size; omega
    have z2 : (w.heap.size + 1 + 1 + 1 : Nat) < v.heap.size := by have := HZ.out; have := KB.out.size; omega
    have f1 := HF.out.1
    have f2 := HF.out.2.1
    have f3 := HF.out.2.2.1
    have f4 := HF.out.2.2.2
    simp only [List.getElem?_toArray, List.getElem?_cons_zero, List.getElem?_cons_succ] at f1 f2 f3 f4
    go_wp2_with fail
    refine (divmod_no A1 A2 c1 c2 (digs (val xs)) (digs (val ys)) _ D1.out D2.out (by omega) (by omega) (by rw [val_digs]; exact HY.out)).mono ?_
    rintro e v1 ⟨rfl, hb⟩
    have K1 := Lib.hid (KB.out.trans (hb.mono KB.out.size))
    clear hb f1 f2 f3 f4
    have q0 := row_cell HR0.out K1.out 0
    have q1 := row_cell HR0.out K1.out 1
    have q2 := row_cell HR1.out K1.out 0
    have q3 := row_cell HR1.out K1.out 1
    have p0 := row_frozen HR0.out K1.out 0
    have p1 := row_frozen HR0.out K1.out 1
    have p2 := row_frozen HR1.out K1.out 0
    have p3 := row_frozen HR1.out K1.out 1
    simp only [List.getElem?_toArray, List.getElem?_cons_zero, List.getElem?_cons_succ] at q0 q1 q2 q3
    go_wp2
    refine bodyPost_ret (v := .tuple #[.agg #[.bool false, .slice none 0 0], .agg #[.bool false, .slice none 0 0], .bool false]) (by simp [results, Tryd.results33, go_sem, q0, q1, q2, q3]) rfl ⟨rfl, ?_⟩
    exact (((((HB0.out.trans (K1.out.mono HB0.out.size)).setCell (by simp; omega) _).setCell (by simp; omega) _).setCell (by simp; omega) _).setCell (by simp; omega) _)
end Go.Proofs.YthgkdpfkaobgoaaDoor
end

section
/-
  zint.Div, behind a divisor that is not nought.
-/
namespace Go.Proofs.YthgkdpfkaobgoaaDoor
open Go.RowKit
set_option maxHeartbeats 8000000 in
set_option maxRecDepth 100000 in
theorem zdiv_any (A B : Option Addr) (c d : Nat) (s r : Bool) (xs ys : List Nat) (w : World) (h : Dg w A c xs) (h' : Dg w B d ys) (hl : xs.length ≤ 500000) (hl' : ys.length ≤ 500000) (hy : val ys ≠ 0) :
    Calls Tryd.prog 33 #[.agg #[.bool s, .slice A xs.length c], .agg #[.bool r, .slice B ys.length d]] w fun e w' => Zr2 (Int.fdiv (sg s (val xs)) (sg r (val ys))) (Int.fmod (sg s (val xs)) (sg r (val ys))) w e w' := by
  have HY := Lib.hid hy
  clear hy
  have l1 := digs_len_le h.2.1
  have l2 := digs_len_le h'.2.1
  obtain ⟨t1, ht1⟩ : ∃ t, (s && decide (0 < val xs)) = t := ⟨_, rfl⟩
  obtain ⟨t2, ht2⟩ : ∃ t, (r && decide (0 < val ys)) = t := ⟨_, rfl⟩
  have TA := Lib.hid (fun W h => take_any A c s xs W h (by omega))
  have TB := Lib.hid (fun W h => take_any B d r ys W h (by omega))
  have E1 := Lib.hid (sg_take s (val xs))
  have E2 := Lib.hid (sg_take r (val ys))
  rw [ht1] at TA E1
  rw [ht2] at TB E2
  have HT1 := Lib.hid ht1
  have HT2 := Lib.hid ht2
  clear ht1 ht2
  go_enter Tryd.func33, Tryd.ntmps33
  go_upto_region 1 with fail
  have HB0 := Lib.hid (below4 w (.cells #[.bool s, .slice A xs.length c] 24) (.cells #[.bool r, .slice B ys.length d] 24) (.cells #[.bool false, .slice none 0 0] 24) (.cells #[.bool false, .slice none 0 0] 24))
  obtain ⟨W, hW⟩ : ∃ W : World, W = ((((w.alloc (.cells #[.bool s, .slice A xs.length c] 24)).alloc (.cells #[.bool r, .slice B ys.length d] 24)).alloc (.cells #[.bool false, .slice none 0 0] 24)).alloc (.cells #[.bool false, .slice none 0 0] 24)) := ⟨_, rfl⟩
  have F0 : W.cell? ⟨w.heap.size, 0, none⟩ = some (.bool s) ∧ W.cell? ⟨w.heap.size, 1, none⟩ = some (.slice A xs.length c) ∧ W.cell? ⟨w.heap.size + 1, 0, none⟩ = some (.bool r) ∧ W.cell? ⟨w.heap.size + 1, 1, none⟩ = some (.slice B ys.length d) := by
    rw [hW]
    refine ⟨?_, ?_, ?_, ?_⟩ <;> go_simp
  rw [← hW] at HB0
  rw [← hW]
  have H1 := Lib.hid (h.below HB0.out)
  have H2 := Lib.hid (h'.below HB0.out)
  have hsz : W.heap.size = w.heap.size + 4 := by rw [hW]; simp
  have HR0 := Lib.hid (show W.heap[w.heap.size + 1 + 1]? = some (.cells #[.bool false, .slice none 0 0] 24 (0, 0)) by rw [hW]; have := heap_alloc_new ((w.alloc (.cells #[.bool s, .slice A xs.length c] 24)).alloc (.cells #[.bool r, .slice B ys.length d] 24)) (.cells #[.bool false, .slice none 0 0] 24); rw [heap_alloc_old _ _ (by simp)]; simpa using this)
  have HR1 := Lib.hid (show W.heap[w.heap.size + 1 + 1 + 1]? = some (.cells #[.bool false, .slice none 0 0] 24 (0, 0)) by rw [hW]; have := heap_alloc_new (((w.alloc (.cells #[.bool s, .slice A xs.length c] 24)).alloc (.cells #[.bool r, .slice B ys.length d] 24)).alloc (.cells #[.bool false, .slice none 0 0] 24)) (.cells #[.bool false, .slice none 0 0] 24); simpa using this)
  have HW := Lib.hid hW
  clear hW h h'
  have S0 : w.heap.size < W.heap.size := by omega
  have S1 : w.heap.size + 1 < W.heap.size := by omega
  have HZ := Lib.hid hsz
  clear hsz
  refine two_calls (W := W) rfl 13 14 15 16 7 8 (.agg #[.bool s, .slice A xs.length c]) (.agg #[.bool r, .slice B ys.length d])
    (fun u w' => ∃ A' c', u = .agg #[.slice A' (digs (val xs)).length c', .bool t1] ∧ Dg w' A' c' (digs (val xs)))
    (fun u w' => ∃ A' c', u = .agg #[.slice A' (digs (val ys)).length c', .bool t2] ∧ Dg w' A' c' (digs (val ys)))
    #[.slice none 0 0, .bool false] 59 (fun | .agg us => us | _ => #[])
    rfl (by kernel_rfl) (by kernel_rfl) (by decide) (by kernel_rfl) noint2 ?_ ?_ ?_ ?_ ?_ ?_ ?_ ?_ ?_ ?_ (bd0 W) ?_
  · rintro u w1 w2 ⟨A', c', rfl, hd⟩ hk; exact ⟨A', c', rfl, hd.kept hk⟩
  · rintro u w1 w2 ⟨A', c', rfl, hd⟩ hk; exact ⟨A', c', rfl, hd.kept hk⟩
  · intro a v K hF hb hK
    simp only [wpOp, List.getElem?_toArray, List.getElem?_cons_zero, Region.wanted, if_true]
    refine Or.inl ?_
    have e : a.eval (.tmp 2) = .pointer (some ⟨w.heap.size, 0, none⟩) := hF.2.2 2 (by decide)
    obtain ⟨hc, _⟩ := bcell hb
    simp only [Oper.wp, execOp]
    rw [e]
    go_simp
    exact hK
  · intro a v K hF hb hK
    simp only [wpOp, List.getElem?_toArray, List.getElem?_cons_succ, List.getElem?_cons_zero, Region.wanted, if_true]
    refine Or.inl ?_
    have e : a.eval (.tmp 3) = .pointer (some ⟨w.heap.size + 1, 0, none⟩) := hF.2.2 3 (by decide)
    obtain ⟨hc, _⟩ := bcell hb
    simp only [Oper.wp, execOp]
    rw [e]
    go_simp
    exact hK
  · intro a v K hF hb h1 hK
    simp only [wpOp, List.getElem?_toArray, List.getElem?_cons_succ, List.getElem?_cons_zero, Region.wanted, if_true]
    refine Or.inl ?_
    have e : a.eval (.tmp 13) = .agg #[.bool s, .slice A xs.length c] := h1
    simp only [Oper.wp, execOp]
    go_simp
    refine (TA.out v (H1.out.below hb)).mono ?_
    rintro e w1 ⟨A', c', rfl, hd, hbb⟩
    exact hK _ _ ⟨A', c', rfl, hd⟩ hbb
  · intro a v K hF hb h1 hK
    simp only [wpOp, List.getElem?_toArray, List.getElem?_cons_succ, List.getElem?_cons_zero, Region.wanted, if_true]
    refine Or.inl ?_
    have e : a.eval (.tmp 15) = .agg #[.bool r, .slice B ys.length d] := h1
    simp only [Oper.wp, execOp]
    go_simp
    refine (TB.out v (H2.out.below hb)).mono ?_
    rintro e w1 ⟨A', c', rfl, hd, hbb⟩
    exact hK _ _ ⟨A', c', rfl, hd⟩ hbb
  · intro a v K hF hK
    simp only [wpOp, List.getElem?_toArray, List.getElem?_cons_succ, List.getElem?_cons_zero, Region.wanted, if_true]
    refine Or.inl ?_
    simp only [Oper.wp, execOp]
    go_simp
    exact hK
  · intro a v K hF hK
    simp only [wpOp, List.getElem?_toArray, List.getElem?_cons_succ, List.getElem?_cons_zero, Region.wanted, if_true]
    refine Or.inl ?_
    simp only [Oper.wp, execOp]
    go_simp
    exact hK
  · intro a v K g u hF hx hc hR hg hK
    simp only [wpOp, List.getElem?_toArray, List.getElem?_cons_succ, List.getElem?_cons_zero, Region.wanted, if_true]
    refine Or.inl ?_
    obtain ⟨A', c', rfl, hd⟩ := hR
    have e : a.eval (.tmp 7) = .pointer (some ⟨g, 0, none⟩) := hx
    have e' : a.eval (.tmp 14) = _ := hc
    simp only [Oper.wp, execOp]
    rw [e, e']
    have f0 := cell_of_row v g 0 _ _ _ hg
    have f1 := cell_of_row v g 1 _ _ _ hg
    have z0 := frozen_of_row v g 0 _ _ hg
    have z1 := frozen_of_row v g 1 _ _ hg
    go_simp
    exact hK _ (heap_setCell_same _ _ 1 _ _ _ (heap_setCell_same _ _ 0 _ _ _ hg)) (((Only.refl g v).setCell 0 _).setCell 1 _)
  · intro a v K g u hF hx hc hR hg hK
    simp only [wpOp, List.getElem?_toArray, List.getElem?_cons_succ, List.getElem?_cons_zero, Region.wanted, if_true]
    refine Or.inl ?_
    obtain ⟨A', c', rfl, hd⟩ := hR
    have e : a.eval (.tmp 8) = .pointer (some ⟨g, 0, none⟩) := hx
    have e' : a.eval (.tmp 16) = _ := hc
    simp only [Oper.wp, execOp]
    rw [e, e']
    have f0 := cell_of_row v g 0 _ _ _ hg
    have f1 := cell_of_row v g 1 _ _ _ hg
    have z0 := frozen_of_row v g 0 _ _ hg
    have z1 := frozen_of_row v g 1 _ _ hg
    go_simp
    exact hK _ (heap_setCell_same _ _ 1 _ _ _ (heap_setCell_same _ _ 0 _ _ _ hg)) (((Only.refl g v).setCell 0 _).setCell 1 _)
  · intro a v g1 g2 u1 u2 hF hb h1 h2 hne
    obtain ⟨hl1, hc1, hx1⟩ := h1
    obtain ⟨hl2, hc2, hx2⟩ := h2
    obtain ⟨ec1, A1, c1, rfl, hd1⟩ := hc1 rfl
    obtain ⟨ec2, A2, c2, rfl, hd2⟩ := hc2 rfl
    obtain ⟨ex1, hg1, hs1, hh1⟩ := hx1 rfl
    obtain ⟨ex2, hg2, hs2, hh2⟩ := hx2 rfl
    rw [hF.eq (by kernel_rfl) (hl1 rfl) ec1 (hl2 rfl) ec2 ex1 ex2]
    simp only [if_true] at hh1 hh2
    have HH := Lib.hid (And.intro hh1 hh2)
    have HF := Lib.hid (And.intro (cell_of_row v g1 0 _ _ _ hh1) (And.intro (cell_of_row v g1 1 _ _ _ hh1) (And.intro (cell_of_row v g2 0 _ _ _ hh2) (cell_of_row v g2 1 _ _ _ hh2))))
    have KB := Lib.hid hb
    have D1 := Lib.hid hd1
    have D2 := Lib.hid hd2
    clear hF hb hl1 hc1 hx1 hl2 hc2 hx2 ec1 ec2 ex1 ex2 hh1 hh2 hd1 hd2 hne
    simp only [Act.put, List.setIfInBounds_toArray, List.set_cons_zero, List.set_cons_succ]
    clear TA TB
    have HC := Lib.hid (fun W h1 h2 => divmod_any A1 A2 c1 c2 (digs (val xs)) (digs (val ys)) W h1 h2 (by omega) (by omega) (by rw [val_digs]; exact HY.out))
    simp only [val_digs] at HC
    have b1 := digs_len_mono _ _ (Nat.div_le_self (val xs) (val ys))
    have b2 := digs_len_mono _ _ (Nat.le_of_lt (Nat.mod_lt (val xs) (Nat.pos_of_ne_zero HY.out)))
    have KC := Lib.hid (HB0.out.trans (KB.out.mono HB0.out.size))
    have z1 : (w.heap.size + 1 + 1 : Nat) < v.heap.size := by have := HZ.out; have := KB.out.size; omega
    have z2 : (w.heap.size + 1 + 1 + 1 : Nat) < v.heap.size := by have := HZ.out; have := KB.out.size; omega
    have f1 := HF.out.1
    have f2 := HF.out.2.1
    have f3 := HF.out.2.2.1
    have f4 := HF.out.2.2.2
    simp only [List.getElem?_toArray, List.getElem?_cons_zero, List.getElem?_cons_succ] at f1 f2 f3 f4
    go_wp2_with fail
    refine (HC.out _ D1.out D2.out).mono ?_
    rintro e v1 ⟨A3, c3, B3, d3, rfl, hd3, hd4, hb⟩
    have K1 := Lib.hid hb
    have zv := hb.size
    clear f1 f2 f3 f4 HC
    go_upto_region 6 with fail
    obtain ⟨V, hV⟩ : ∃ V : World, V = (v1.alloc (.cells #[.slice A3 (digs (val xs / val ys)).length c3] 57)).alloc (.cells #[.slice B3 (digs (val xs % val ys)).length d3] 57) := ⟨_, rfl⟩
    rw [← hV]
    have KV := Lib.hid (show Below v1.heap.size v1 V by rw [hV]; exact below2 _ _ _)
    have RV := Lib.hid (show V.heap[v1.heap.size]? = some (.cells #[.slice A3 (digs (val xs / val ys)).length c3] 57 (0, 0)) ∧ V.heap[v1.heap.size + 1]? = some (.cells #[.slice B3 (digs (val xs % val ys)).length d3] 57 (0, 0)) ∧ V.heap[g1]? = some (.cells #[.slice A1 (digs (val xs)).length c1, .bool t1] 59 (0, 0)) ∧ V.heap[g2]? = some (.cells #[.slice A2 (digs (val ys)).length c2, .bool t2] 59 (0, 0)) by
      refine ⟨?_, ?_, ?_, ?_⟩
      · rw [hV]; exact heap_alloc2_old _ _ _
      · rw [hV]; exact heap_alloc2_new _ _ _
      · exact cells_of (cells_of HH.out.1 K1.out) KV.out
      · exact cells_of (cells_of HH.out.2 K1.out) KV.out)
    have D3 := Lib.hid (hd3.below KV.out)
    have D4 := Lib.hid (hd4.below KV.out)
    have DY := Lib.hid ((D2.out.below K1.out).below KV.out)
    have KW := Lib.hid (KB.out.trans ((K1.out.trans (KV.out.mono K1.out.size)).mono KB.out.size))
    have y1 : v1.heap.size < V.heap.size := heap_lt RV.out.1
    have y2 : v1.heap.size + 1 < V.heap.size := heap_lt RV.out.2.1
    have y3 : g1 < V.heap.size := heap_lt RV.out.2.2.1
    have y4 : g2 < V.heap.size := heap_lt RV.out.2.2.2
    have n1 := Lib.hid (show v1.heap.size ≠ w.heap.size + 1 + 1 ∧ v1.heap.size ≠ w.heap.size + 1 + 1 + 1 ∧ v1.heap.size + 1 ≠ w.heap.size + 1 + 1 ∧ v1.heap.size + 1 ≠ w.heap.size + 1 + 1 + 1 ∧ g1 ≠ w.heap.size + 1 + 1 ∧ g1 ≠ w.heap.size + 1 + 1 + 1 ∧ g2 ≠ w.heap.size + 1 + 1 ∧ g2 ≠ w.heap.size + 1 + 1 + 1 ∧ g2 ≠ v1.heap.size ∧ g2 ≠ v1.heap.size + 1 by have := HZ.out; have := KB.out.size; omega)
    clear hV hd3 hd4 hb D1 D2 HF HH H1 H2 KV K1
    cases ht : (t1 != t2)
    · have et : t1 = t2 := by simpa using ht
      have ET := Lib.hid et
      clear et
      have f1 := cell_of_row V _ 1 _ _ _ RV.out.2.2.1
      have f2 := cell_of_row V _ 1 _ _ _ RV.out.2.2.2
      simp only [List.getElem?_toArray, List.getElem?_cons_zero, List.getElem?_cons_succ] at f1 f2
      have RX := RV
      have KX := KW
      have x1 := y1
      have x2 := y2
      have x3 := y3
      have x4 := y4
      go_wp2_with fail
      clear f1 f2
      clear RV
      have f1 := cell_of_row V _ 0 _ _ _ RX.out.1
      have f2 := cell_of_row V _ 0 _ _ _ RX.out.2.1
      have f3 := cell_of_row V _ 1 _ _ _ RX.out.2.2.1
      have f4 := cell_of_row V _ 1 _ _ _ RX.out.2.2.2
      simp only [List.getElem?_toArray, List.getElem?_cons_zero, List.getElem?_cons_succ] at f1 f2 f3 f4
      have HS8 := Lib.hid (And.intro f1 (And.intro f2 (And.intro f3 f4)))
      clear f1 f2 f3 f4
      have KD := Lib.hid (below_drew (Below.refl V.heap.size V))
      go_region_held3 (fun w' => w'.cell? ⟨v1.heap.size, 0, none⟩ = some (.slice A3 (digs (val xs / val ys)).length c3) ∧ w'.cell? ⟨v1.heap.size + 1, 0, none⟩ = some (.slice B3 (digs (val xs % val ys)).length d3) ∧ w'.cell? ⟨g1, 1, none⟩ = some (.bool t1) ∧ w'.cell? ⟨g2, 1, none⟩ = some (.bool t2))
        (first | with_reducible exact HS8.out | with_reducible exact carry4 KD.out HS8.out x1 x2 x3 x4 | with_reducible exact carry4 L1.out HS8.out x1 x2 x3 x4 | with_reducible exact carry4 L2.out HS8.out x1 x2 x3 x4 | with_reducible exact set4 (set4 (carry4 L2.out HS8.out x1 x2 x3 x4) n1.out.1 n1.out.2.2.1 n1.out.2.2.2.2.1 n1.out.2.2.2.2.2.2.1) n1.out.1 n1.out.2.2.1 n1.out.2.2.2.2.1 n1.out.2.2.2.2.2.2.1 | with_reducible exact set4 (set4 (set4 (set4 (carry4 L2.out HS8.out x1 x2 x3 x4) n1.out.1 n1.out.2.2.1 n1.out.2.2.2.2.1 n1.out.2.2.2.2.2.2.1) n1.out.1 n1.out.2.2.1 n1.out.2.2.2.2.1 n1.out.2.2.2.2.2.2.1) n1.out.2.1 n1.out.2.2.2.1 n1.out.2.2.2.2.2.1 n1.out.2.2.2.2.2.2.2.1) n1.out.2.1 n1.out.2.2.2.1 n1.out.2.2.2.2.2.1 n1.out.2.2.2.2.2.2.2.1)
        (first
          | (go_at_call_of 46 A3; (with_reducible refine (give_any A3 c3 (val xs / val ys) false _ (D3.out.below KD.out) (by omega)).mono ?_); rintro e w5 ⟨A5, c5, rfl, hd, hb⟩; (have L1 := Lib.hid (KD.out.trans (hb.mono KD.out.size))); (have G5 := Lib.hid hd); clear hb hd)
          | (go_at_call_of 46 B3; (with_reducible refine (give_any B3 d3 (val xs % val ys) t2 _ (D4.out.below L1.out) (by omega)).mono ?_); rintro e w6 ⟨A6, c6, rfl, hd, hb⟩; (have L2 := Lib.hid (L1.out.trans (hb.mono L1.out.size))); (have G6 := Lib.hid hd); (have G5' := Lib.hid (G5.out.below hb)); (have KA := Lib.hid (KX.out.trans (L2.out.mono KX.out.size))); (have q0 := row_cell HR0.out KA.out 0); (have q1 := row_cell HR0.out KA.out 1); (have q2 := row_cell HR1.out KA.out 0); (have q3 := row_cell HR1.out KA.out 1); (have p0 := row_frozen HR0.out KA.out 0); (have p1 := row_frozen HR0.out KA.out 1); (have p2 := row_frozen HR1.out KA.out 0); (have p3 := row_frozen HR1.out KA.out 1); (simp only [List.getElem?_toArray, List.getElem?_cons_zero, List.getElem?_cons_succ] at q0 q1 q2 q3); (have HO := Lib.hid (And.intro (off_row (g := w.heap.size + 1 + 1) G5'.out KA.out HR0.out noint2') (And.intro (off_row (g := w.heap.size + 1 + 1 + 1) G5'.out KA.out HR1.out noint2') (And.intro (off_row (g := w.heap.size + 1 + 1) hd KA.out HR0.out noint2') (off_row (g := w.heap.size + 1 + 1 + 1) hd KA.out HR1.out noint2'))))); clear hb hd))
      go_wp2
      refine bodyPost_ret (v := .tuple #[.agg #[.bool (false && decide ((val xs / val ys) ≠ 0)), .slice A5 (digs (val xs / val ys)).length c5], .agg #[.bool (t2 && decide ((val xs % val ys) ≠ 0)), .slice A6 (digs (val xs % val ys)).length c6], .bool true]) (by simp [results, Tryd.results33, go_sem, q0, q1, q2, q3]) rfl ?_
      refine zr2_give (by rw [← E1.out, ← E2.out]; exact (by rw [ET.out]; exact fd_same.1)) (by rw [← E1.out, ← E2.out]; exact (by rw [ET.out]; exact fd_same.2)) ((((G5'.out.set_off HO.out.1 _ _).set_off HO.out.1 _ _).set_off HO.out.2.1 _ _).set_off HO.out.2.1 _ _) ((((G6.out.set_off HO.out.2.2.1 _ _).set_off HO.out.2.2.1 _ _).set_off HO.out.2.2.2 _ _).set_off HO.out.2.2.2 _ _) ?_
      exact (((((HB0.out.trans (KA.out.mono HB0.out.size)).setCell (by simp; omega) _).setCell (by simp; omega) _).setCell (by simp; omega) _).setCell (by simp; omega) _)
    · have HT := Lib.hid ht
      have hn0 : ¬ (t1 = t2) := by intro e; rw [e] at ht; simp at ht
      by_cases hk : val xs % val ys = 0
      · have HK := Lib.hid hk
        clear hk
        have f1 := cell_of_row V _ 1 _ _ _ RV.out.2.2.1
        have f2 := cell_of_row V _ 1 _ _ _ RV.out.2.2.2
        have f3 := cell_of_row V _ 0 _ _ _ RV.out.2.1
        simp only [List.getElem?_toArray, List.getElem?_cons_zero, List.getElem?_cons_succ] at f1 f2 f3
        go_wp2_with fail
        refine (zero_any B3 (digs (val xs % val ys)).length d3 _ true (by rw [HK.out, digs_zero]; rfl)).mono ?_
        rintro e v2 ⟨rfl, hb⟩
        have KZ := Lib.hid hb
        have KX := Lib.hid (KW.out.trans (KZ.out.mono KW.out.size))
        have RX := Lib.hid (And.intro (cells_of RV.out.1 KZ.out) (And.intro (cells_of RV.out.2.1 KZ.out) (And.intro (cells_of RV.out.2.2.1 KZ.out) (cells_of RV.out.2.2.2 KZ.out))))
        clear hb f1 f2 f3
        have x1 := heap_lt RX.out.1
        have x2 := heap_lt RX.out.2.1
        have x3 := heap_lt RX.out.2.2.1
        have x4 := heap_lt RX.out.2.2.2
        have f1 := cell_of_row v2 _ 1 _ _ _ RX.out.2.2.1
        have f2 := cell_of_row v2 _ 1 _ _ _ RX.out.2.2.2
        simp only [List.getElem?_toArray, List.getElem?_cons_zero, List.getElem?_cons_succ] at f1 f2
        go_wp2_with fail
        clear f1 f2
        clear RV
        have f1 := cell_of_row v2 _ 0 _ _ _ RX.out.1
        have f2 := cell_of_row v2 _ 0 _ _ _ RX.out.2.1
        have f3 := cell_of_row v2 _ 1 _ _ _ RX.out.2.2.1
        have f4 := cell_of_row v2 _ 1 _ _ _ RX.out.2.2.2
        simp only [List.getElem?_toArray, List.getElem?_cons_zero, List.getElem?_cons_succ] at f1 f2 f3 f4
        have HS8 := Lib.hid (And.intro f1 (And.intro f2 (And.intro f3 f4)))
        clear f1 f2 f3 f4
        have KD := Lib.hid (below_drew (Below.refl v2.heap.size v2))
        go_region_held3 (fun w' => w'.cell? ⟨v1.heap.size, 0, none⟩ = some (.slice A3 (digs (val xs / val ys)).length c3) ∧ w'.cell? ⟨v1.heap.size + 1, 0, none⟩ = some (.slice B3 (digs (val xs % val ys)).length d3) ∧ w'.cell? ⟨g1, 1, none⟩ = some (.bool t1) ∧ w'.cell? ⟨g2, 1, none⟩ = some (.bool t2))
          (first | with_reducible exact HS8.out | with_reducible exact carry4 KD.out HS8.out x1 x2 x3 x4 | with_reducible exact carry4 L1.out HS8.out x1 x2 x3 x4 | with_reducible exact carry4 L2.out HS8.out x1 x2 x3 x4 | with_reducible exact set4 (set4 (carry4 L2.out HS8.out x1 x2 x3 x4) n1.out.1 n1.out.2.2.1 n1.out.2.2.2.2.1 n1.out.2.2.2.2.2.2.1) n1.out.1 n1.out.2.2.1 n1.out.2.2.2.2.1 n1.out.2.2.2.2.2.2.1 | with_reducible exact set4 (set4 (set4 (set4 (carry4 L2.out HS8.out x1 x2 x3 x4) n1.out.1 n1.out.2.2.1 n1.out.2.2.2.2.1 n1.out.2.2.2.2.2.2.1) n1.out.1 n1.out.2.2.1 n1.out.2.2.2.2.1 n1.out.2.2.2.2.2.2.1) n1.out.2.1 n1.out.2.2.2.1 n1.out.2.2.2.2.2.1 n1.out.2.2.2.2.2.2.2.1) n1.out.2.1 n1.out.2.2.2.1 n1.out.2.2.2.2.2.1 n1.out.2.2.2.2.2.2.2.1)
          (first
            | (go_at_call_of 46 A3; (with_reducible refine (give_any A3 c3 (val xs / val ys) _ _ ((D3.out.below KZ.out).below KD.out) (by omega)).mono ?_); rintro e w5 ⟨A5, c5, rfl, hd, hb⟩; (have L1 := Lib.hid (KD.out.trans (hb.mono KD.out.size))); (have G5 := Lib.hid hd); clear hb hd)
            | (go_at_call_of 46 B3; (with_reducible refine (give_any B3 d3 (val xs % val ys) t2 _ ((D4.out.below KZ.out).below L1.out) (by omega)).mono ?_); rintro e w6 ⟨A6, c6, rfl, hd, hb⟩; (have L2 := Lib.hid (L1.out.trans (hb.mono L1.out.size))); (have G6 := Lib.hid hd); (have G5' := Lib.hid (G5.out.below hb)); (have KA := Lib.hid (KX.out.trans (L2.out.mono KX.out.size))); (have q0 := row_cell HR0.out KA.out 0); (have q1 := row_cell HR0.out KA.out 1); (have q2 := row_cell HR1.out KA.out 0); (have q3 := row_cell HR1.out KA.out 1); (have p0 := row_frozen HR0.out KA.out 0); (have p1 := row_frozen HR0.out KA.out 1); (have p2 := row_frozen HR1.out KA.out 0); (have p3 := row_frozen HR1.out KA.out 1); (simp only [List.getElem?_toArray, List.getElem?_cons_zero, List.getElem?_cons_succ] at q0 q1 q2 q3); (have HO := Lib.hid (And.intro (off_row (g := w.heap.size + 1 + 1) G5'.out KA.out HR0.out noint2') (And.intro (off_row (g := w.heap.size + 1 + 1 + 1) G5'.out KA.out HR1.out noint2') (And.intro (off_row (g := w.heap.size + 1 + 1) hd KA.out HR0.out noint2') (off_row (g := w.heap.size + 1 + 1 + 1) hd KA.out HR1.out noint2'))))); clear hb hd))
        go_wp2
        refine bodyPost_ret (v := .tuple #[.agg #[.bool (true && decide ((val xs / val ys) ≠ 0)), .slice A5 (digs (val xs / val ys)).length c5], .agg #[.bool (t2 && decide ((val xs % val ys) ≠ 0)), .slice A6 (digs (val xs % val ys)).length c6], .bool true]) (by simp [results, Tryd.results33, go_sem, q0, q1, q2, q3, hn0]) rfl ?_
        refine zr2_give (by rw [← E1.out, ← E2.out]; exact (fd_exact HT.out HY.out HK.out).1) (by rw [← E1.out, ← E2.out]; exact (fd_exact HT.out HY.out HK.out).2) ((((G5'.out.set_off HO.out.1 _ _).set_off HO.out.1 _ _).set_off HO.out.2.1 _ _).set_off HO.out.2.1 _ _) ((((G6.out.set_off HO.out.2.2.1 _ _).set_off HO.out.2.2.1 _ _).set_off HO.out.2.2.2 _ _).set_off HO.out.2.2.2 _ _) ?_
        exact (((((HB0.out.trans (KA.out.mono HB0.out.size)).setCell (by simp; omega) _).setCell (by simp; omega) _).setCell (by simp; omega) _).setCell (by simp; omega) _)
      · have HK := Lib.hid hk
        have hkn : (digs (val xs % val ys)).length ≠ 0 := fun e => HK.out (digs_nil.1 e)
        have HKN := Lib.hid hkn
        clear hk hkn
        have f1 := cell_of_row V _ 1 _ _ _ RV.out.2.2.1
        have f2 := cell_of_row V _ 1 _ _ _ RV.out.2.2.2
        have f3 := cell_of_row V _ 0 _ _ _ RV.out.2.1
        simp only [List.getElem?_toArray, List.getElem?_cons_zero, List.getElem?_cons_succ] at f1 f2 f3
        go_wp2_with fail
        refine (zero_any B3 (digs (val xs % val ys)).length d3 _ false (len_ne HKN.out)).mono ?_
        rintro e v2 ⟨rfl, hb⟩
        have KZ := Lib.hid hb
        have KX := Lib.hid (KW.out.trans (KZ.out.mono KW.out.size))
        have RX := Lib.hid (And.intro (cells_of RV.out.1 KZ.out) (And.intro (cells_of RV.out.2.1 KZ.out) (And.intro (cells_of RV.out.2.2.1 KZ.out) (cells_of RV.out.2.2.2 KZ.out))))
        clear hb f1 f2 f3
        have x1 := heap_lt RX.out.1
        have x2 := heap_lt RX.out.2.1
        have x3 := heap_lt RX.out.2.2.1
        have x4 := heap_lt RX.out.2.2.2
        have f1 := cell_of_row v2 _ 1 _ _ _ RX.out.2.2.1
        have f2 := cell_of_row v2 _ 1 _ _ _ RX.out.2.2.2
        have f3 := cell_of_row v2 _ 0 _ _ _ RX.out.2.2.2
        simp only [List.getElem?_toArray, List.getElem?_cons_zero, List.getElem?_cons_succ] at f1 f2 f3
        go_wp2_with fail
        clear f1 f2 f3
        have E3 := Lib.hid (D3.out.below KZ.out)
        have E4 := Lib.hid (D4.out.below KZ.out)
        have EY := Lib.hid (DY.out.below KZ.out)
        have MA := Lib.hid (fun U h => more_any A3 c3 (val xs / val ys) U h (by omega))
        have MB := Lib.hid (fun U h h' => without_any A2 B3 c2 d3 (val ys) (val xs % val ys) U h h' (by omega) (by omega) (Nat.le_of_lt (Nat.mod_lt (val xs) (Nat.pos_of_ne_zero HY.out))))
        refine wp_operands (W := v2) rfl 6 [46, 47, 48, 49, 50, 51] (fun i u x => match i with | 0 => u = .agg #[.slice A3 (digs (val xs / val ys)).length c3] | 1 => ∃ A' c', u = .agg #[.slice A' (digs (val xs / val ys + 1)).length c'] ∧ Dg x A' c' (digs (val xs / val ys + 1)) | 2 => u = .pointer (some ⟨g2, 0, none⟩) | 3 => u = .agg #[.slice A2 (digs (val ys)).length c2] | 4 => u = .agg #[.slice B3 (digs (val xs % val ys)).length d3] | 5 => ∃ A' c', u = .agg #[.slice A' (digs (val ys - val xs % val ys)).length c'] ∧ Dg x A' c' (digs (val ys - val xs % val ys)) | _ => True) (fun _ => false)
          (by decide) rfl (by kernel_rfl) (by kernel_rfl) (by decide) (by kernel_rfl) ?_ (fun _ _ _ h => by cases h) ?_ ?_
        · intro i u x x' hi hR hb
          have hi' : i = 0 ∨ i = 1 ∨ i = 2 ∨ i = 3 ∨ i = 4 ∨ i = 5 := by omega
          rcases hi' with rfl | rfl | rfl | rfl | rfl | rfl
          · exact hR
          · obtain ⟨A', c', e, hd⟩ := hR; exact ⟨A', c', e, hd.below hb⟩
          · exact hR
          · exact hR
          · exact hR
          · obtain ⟨A', c', e, hd⟩ := hR; exact ⟨A', c', e, hd.below hb⟩
        · intro i a x K hi hF hb hw hK
          have hi' : i = 0 ∨ i = 1 ∨ i = 2 ∨ i = 3 ∨ i = 4 ∨ i = 5 := by omega
          rcases hi' with rfl | rfl | rfl | rfl | rfl | rfl
          · simp only [wpOp, List.getElem?_toArray, List.getElem?_cons_zero, Region.wanted, if_true]
            refine Or.inl ?_
            have e : a.eval (.tmp 11) = .pointer (some ⟨v1.heap.size, 0, none⟩) := hF.2.2 11 (by decide)
            have f := row_cell RX.out.1 hb 0
            simp only [List.getElem?_toArray, List.getElem?_cons_zero] at f
            clear hw hF
            simp only [Oper.wp, execOp]
            rw [e]
            go_simp
            exact hK _ x rfl (Below.refl _ _) (fun h => by cases h)
          · simp only [wpOp, List.getElem?_toArray, List.getElem?_cons_succ, List.getElem?_cons_zero, Region.wanted, if_true]
            refine Or.inl ?_
            have e : a.tmps.getD 46 undef = .agg #[.slice A3 (digs (val xs / val ys)).length c3] := hw 0 (by kernel_rfl)
            clear hw hF
            simp only [Oper.wp, execOp]
            go_simp
            refine (MA.out x (E3.out.below hb)).mono ?_
            rintro e y ⟨A', c', rfl, hd, hbb⟩
            exact hK _ y ⟨A', c', rfl, hd⟩ hbb (fun h => by cases h)
          · simp only [wpOp, List.getElem?_toArray, List.getElem?_cons_succ, List.getElem?_cons_zero, Region.wanted, if_true]
            refine Or.inl ?_
            have e : a.eval (.tmp 8) = .pointer (some ⟨g2, 0, none⟩) := hF.2.2 8 (by decide)
            clear hw hF
            simp only [Oper.wp, execOp]
            rw [e]
            go_simp
            exact hK _ x rfl (Below.refl _ _) (fun h => by cases h)
          · simp only [wpOp, List.getElem?_toArray, List.getElem?_cons_succ, List.getElem?_cons_zero, Region.wanted, if_true]
            refine Or.inl ?_
            have e : a.eval (.tmp 48) = .pointer (some ⟨g2, 0, none⟩) := hw 2 (by kernel_rfl)
            have f := row_cell RX.out.2.2.2 hb 0
            simp only [List.getElem?_toArray, List.getElem?_cons_zero] at f
            clear hw hF
            simp only [Oper.wp, execOp]
            rw [e]
            go_simp
            exact hK _ x rfl (Below.refl _ _) (fun h => by cases h)
          · simp only [wpOp, List.getElem?_toArray, List.getElem?_cons_succ, List.getElem?_cons_zero, Region.wanted, if_true]
            refine Or.inl ?_
            have e : a.eval (.tmp 12) = .pointer (some ⟨v1.heap.size + 1, 0, none⟩) := hF.2.2 12 (by decide)
            have f := row_cell RX.out.2.1 hb 0
            simp only [List.getElem?_toArray, List.getElem?_cons_zero] at f
            clear hw hF
            simp only [Oper.wp, execOp]
            rw [e]
            go_simp
            exact hK _ x rfl (Below.refl _ _) (fun h => by cases h)
          · simp only [wpOp, List.getElem?_toArray, List.getElem?_cons_succ, List.getElem?_cons_zero, Region.wanted, if_true]
            refine Or.inl ?_
            have e : a.tmps.getD 49 undef = .agg #[.slice A2 (digs (val ys)).length c2] := hw 3 (by kernel_rfl)
            have e' : a.tmps.getD 50 undef = .agg #[.slice B3 (digs (val xs % val ys)).length d3] := hw 4 (by kernel_rfl)
            clear hw hF
            simp only [Oper.wp, execOp]
            go_simp
            refine (MB.out x (EY.out.below hb) (E4.out.below hb)).mono ?_
            rintro e y ⟨A', c', rfl, hd, hbb⟩
            exact hK _ y ⟨A', c', rfl, hd⟩ hbb (fun h => by cases h)
        · intro a x hF hb hR _
          obtain ⟨A7, c7, e7, hd7⟩ := hR 1 (by decide)
          obtain ⟨A8, c8, e8, hd8⟩ := hR 5 (by decide)
          have e0 : a.tmps.getD 46 undef = .agg #[.slice A3 (digs (val xs / val ys)).length c3] := hR 0 (by decide)
          have e1 : a.tmps.getD 47 undef = .agg #[.slice A7 (digs (val xs / val ys + 1)).length c7] := e7
          have e2 : a.tmps.getD 48 undef = .pointer (some ⟨g2, 0, none⟩) := hR 2 (by decide)
          have e3 : a.tmps.getD 49 undef = .agg #[.slice A2 (digs (val ys)).length c2] := hR 3 (by decide)
          have e4 : a.tmps.getD 50 undef = .agg #[.slice B3 (digs (val xs % val ys)).length d3] := hR 4 (by decide)
          have e5 : a.tmps.getD 51 undef = .agg #[.slice A8 (digs (val ys - val xs % val ys)).length c8] := e8
          rw [hF.fold (by kernel_rfl)]
          simp only [List.foldl_cons, List.foldl_nil, e0, e1, e2, e3, e4, e5]
          simp only [Act.put, List.setIfInBounds_toArray, List.set_cons_zero, List.set_cons_succ]
          change wpOps _ _ _ [6, 7] _ _
          simp only [wpOps_cons]
          clear e0 e1 e2 e3 e4 e5 e7 e8 hR hF
          have rx0 := cells_of RX.out.1 hb
          have rx1 := cells_of RX.out.2.1 hb
          have w0 := cell_of_row x _ 0 _ _ _ rx0
          have w1 := cell_of_row x _ 0 _ _ _ rx1
          simp only [List.getElem?_toArray, List.getElem?_cons_zero] at w0 w1
          have o0 := frozen_of_row x _ 0 _ _ rx0
          have o1 := frozen_of_row x _ 0 _ _ rx1
          have HH0 := Lib.hid (And.intro rx0 rx1)
          have HHB := Lib.hid hb
          have HD7 := Lib.hid (And.intro hd7 hd8)
          clear rx0 rx1 hb hd7 hd8
          simp only [wpOp, List.getElem?_toArray, List.getElem?_cons_succ, List.getElem?_cons_zero, Region.wanted, if_true]
          refine Or.inl ?_
          simp only [Oper.wp, execOp]
          go_simp
          rw [wpOps_cons]
          simp only [wpOp, List.getElem?_toArray, List.getElem?_cons_succ, List.getElem?_cons_zero, Region.wanted, if_true]
          refine Or.inl ?_
          simp only [Oper.wp, execOp]
          go_simp
          try simp only [wpOps]
          obtain ⟨V3, hV3⟩ : ∃ V3 : World, V3 = (x.setCell ⟨v1.heap.size, 0, none⟩ (.slice A7 (digs (val xs / val ys + 1)).length c7)).setCell ⟨v1.heap.size + 1, 0, none⟩ (.slice A8 (digs (val ys - val xs % val ys)).length c8) := ⟨_, rfl⟩
          rw [← hV3]
          have r0 := heap_setCell_same x _ 0 _ _ (.slice A7 (digs (val xs / val ys + 1)).length c7) HH0.out.1
          have r1p := (heap_setCell_other x ⟨v1.heap.size, 0, none⟩ (v1.heap.size + 1) (.slice A7 (digs (val xs / val ys + 1)).length c7) (by simp)).trans HH0.out.2
          have gg1 : g1 < v1.heap.size := by omega
          have gg2 : g2 < v1.heap.size := by omega
          have RY := Lib.hid (show V3.heap[v1.heap.size]? = some (.cells #[.slice A7 (digs (val xs / val ys + 1)).length c7] 57 (0, 0)) ∧ V3.heap[v1.heap.size + 1]? = some (.cells #[.slice A8 (digs (val ys - val xs % val ys)).length c8] 57 (0, 0)) ∧ V3.heap[g1]? = some (.cells #[.slice A1 (digs (val xs)).length c1, .bool t1] 59 (0, 0)) ∧ V3.heap[g2]? = some (.cells #[.slice A2 (digs (val ys)).length c2, .bool t2] 59 (0, 0)) by
            rw [hV3]
            exact ⟨(heap_setCell_other _ _ _ _ (by simp)).trans r0, heap_setCell_same _ _ 0 _ _ _ r1p, (heap_setCell_other _ _ _ _ (by simp; omega)).trans ((heap_setCell_other _ _ _ _ (by simp; omega)).trans (cells_of RX.out.2.2.1 HHB.out)), (heap_setCell_other _ _ _ _ (by simp; omega)).trans ((heap_setCell_other _ _ _ _ (by simp; omega)).trans (cells_of RX.out.2.2.2 HHB.out))⟩)
          have KPT : Kept x V3 := by rw [hV3]; exact (((Only.refl _ x).setCell 0 _).kept HH0.out.1 noint1).trans (((Only.refl _ _).setCell 0 _).kept r1p noint1)
          have F7 := Lib.hid (HD7.out.1.kept KPT)
          have F8 := Lib.hid (HD7.out.2.kept KPT)
          have KX3 := Lib.hid (show Below W.heap.size W V3 by rw [hV3]; exact ((KX.out.trans (HHB.out.mono KX.out.size)).setCell (by have := KB.out.size; simp; omega) _).setCell (by have := KB.out.size; simp; omega) _)
          have b3 := digs_add_len (val xs / val ys) 1
          have b4 := digs_sub_len (val ys) (val xs % val ys)
          have b5 : (digs 1).length ≤ 1 := by rw [digs_one (by omega) (by omega)]; simp
          clear hV3 r0 r1p KPT HD7 w0 w1 o0 o1 x1 x2 x3 x4 RX
          have x1 := heap_lt RY.out.1
          have x2 := heap_lt RY.out.2.1
          have x3 := heap_lt RY.out.2.2.1
          have x4 := heap_lt RY.out.2.2.2
          have f1 := cell_of_row V3 _ 1 _ _ _ RY.out.2.2.1
          have f2 := cell_of_row V3 _ 1 _ _ _ RY.out.2.2.2
          simp only [List.getElem?_toArray, List.getElem?_cons_zero, List.getElem?_cons_succ] at f1 f2
          go_wp2_with fail
          clear f1 f2
          clear RV
          have f1 := cell_of_row V3 _ 0 _ _ _ RY.out.1
          have f2 := cell_of_row V3 _ 0 _ _ _ RY.out.2.1
          have f3 := cell_of_row V3 _ 1 _ _ _ RY.out.2.2.1
          have f4 := cell_of_row V3 _ 1 _ _ _ RY.out.2.2.2
          simp only [List.getElem?_toArray, List.getElem?_cons_zero, List.getElem?_cons_succ] at f1 f2 f3 f4
          have HS8 := Lib.hid (And.intro f1 (And.intro f2 (And.intro f3 f4)))
          clear f1 f2 f3 f4
          have KD := Lib.hid (below_drew (Below.refl V3.heap.size V3))
          go_region_held3 (fun w' => w'.cell? ⟨v1.heap.size, 0, none⟩ = some (.slice A7 (digs (val xs / val ys + 1)).length c7) ∧ w'.cell? ⟨v1.heap.size + 1, 0, none⟩ = some (.slice A8 (digs (val ys - val xs % val ys)).length c8) ∧ w'.cell? ⟨g1, 1, none⟩ = some (.bool t1) ∧ w'.cell? ⟨g2, 1, none⟩ = some (.bool t2))
            (first | with_reducible exact HS8.out | with_reducible exact carry4 KD.out HS8.out x1 x2 x3 x4 | with_reducible exact carry4 L1.out HS8.out x1 x2 x3 x4 | with_reducible exact carry4 L2.out HS8.out x1 x2 x3 x4 | with_reducible exact set4 (set4 (carry4 L2.out HS8.out x1 x2 x3 x4) n1.out.1 n1.out.2.2.1 n1.out.2.2.2.2.1 n1.out.2.2.2.2.2.2.1) n1.out.1 n1.out.2.2.1 n1.out.2.2.2.2.1 n1.out.2.2.2.2.2.2.1 | with_reducible exact set4 (set4 (set4 (set4 (carry4 L2.out HS8.out x1 x2 x3 x4) n1.out.1 n1.out.2.2.1 n1.out.2.2.2.2.1 n1.out.2.2.2.2.2.2.1) n1.out.1 n1.out.2.2.1 n1.out.2.2.2.2.1 n1.out.2.2.2.2.2.2.1) n1.out.2.1 n1.out.2.2.2.1 n1.out.2.2.2.2.2.1 n1.out.2.2.2.2.2.2.2.1) n1.out.2.1 n1.out.2.2.2.1 n1.out.2.2.2.2.2.1 n1.out.2.2.2.2.2.2.2.1)
            (first
              | (go_at_call_of 46 A7; (with_reducible refine (give_any A7 c7 (val xs / val ys + 1) _ _ (F7.out.below KD.out) (by omega)).mono ?_); rintro e w5 ⟨A5, c5, rfl, hd, hb⟩; (have L1 := Lib.hid (KD.out.trans (hb.mono KD.out.size))); (have G5 := Lib.hid hd); clear hb hd)
              | (go_at_call_of 46 A8; (with_reducible refine (give_any A8 c8 (val ys - val xs % val ys) t2 _ (F8.out.below L1.out) (by omega)).mono ?_); rintro e w6 ⟨A6, c6, rfl, hd, hb⟩; (have L2 := Lib.hid (L1.out.trans (hb.mono L1.out.size))); (have G6 := Lib.hid hd); (have G5' := Lib.hid (G5.out.below hb)); (have KA := Lib.hid (KX3.out.trans (L2.out.mono KX3.out.size))); (have q0 := row_cell HR0.out KA.out 0); (have q1 := row_cell HR0.out KA.out 1); (have q2 := row_cell HR1.out KA.out 0); (have q3 := row_cell HR1.out KA.out 1); (have p0 := row_frozen HR0.out KA.out 0); (have p1 := row_frozen HR0.out KA.out 1); (have p2 := row_frozen HR1.out KA.out 0); (have p3 := row_frozen HR1.out KA.out 1); (simp only [List.getElem?_toArray, List.getElem?_cons_zero, List.getElem?_cons_succ] at q0 q1 q2 q3); (have HO := Lib.hid (And.intro (off_row (g := w.heap.size + 1 + 1) G5'.out KA.out HR0.out noint2') (And.intro (off_row (g := w.heap.size + 1 + 1 + 1) G5'.out KA.out HR1.out noint2') (And.intro (off_row (g := w.heap.size + 1 + 1) hd KA.out HR0.out noint2') (off_row (g := w.heap.size + 1 + 1 + 1) hd KA.out HR1.out noint2'))))); clear hb hd))
          go_wp2
          refine bodyPost_ret (v := .tuple #[.agg #[.bool (true && decide ((val xs / val ys + 1) ≠ 0)), .slice A5 (digs (val xs / val ys + 1)).length c5], .agg #[.bool (t2 && decide ((val ys - val xs % val ys) ≠ 0)), .slice A6 (digs (val ys - val xs % val ys)).length c6], .bool true]) (by simp [results, Tryd.results33, go_sem, q0, q1, q2, q3, hn0]) rfl ?_
          refine zr2_give (by rw [← E1.out, ← E2.out]; exact (fd_more HT.out HY.out HK.out).1) (by rw [← E1.out, ← E2.out]; exact (fd_more HT.out HY.out HK.out).2) ((((G5'.out.set_off HO.out.1 _ _).set_off HO.out.1 _ _).set_off HO.out.2.1 _ _).set_off HO.out.2.1 _ _) ((((G6.out.set_off HO.out.2.2.1 _ _).set_off HO.out.2.2.1 _ _).set_off HO.out.2.2.2 _ _).set_off HO.out.2.2.2 _ _) ?_
          exact (((((HB0.out.trans (KA.out.mono HB0.out.size)).setCell (by simp; omega) _).setCell (by simp; omega) _).setCell (by simp; omega) _).setCell (by simp; omega) _)
end Go.Proofs.YthgkdpfkaobgoaaDoor
end

section
/-
  zint.Text of a number of one part.
-/
namespace Go.Proofs.YthgkdpfkaobgoaaDoor
open Go.RowKit Go.Sort
theorem elem9_info : (Tryd.prog.info? 9).map (fun i => (i.zero, i.size, i.bytes)) = some (some (.string ⟨#[]⟩), 1, 16) := by kernel_rfl
theorem one_new {w : World} {a : Value} {T : TypeId} {j : Nat} {u : Value} (hj : [a][j]? = some u) : (w.alloc (.cells #[a] T)).cell? ((⟨w.heap.size, 0, none⟩ : Addr).add j) = some u := by
  rw [Addr.add_lit, Nat.zero_add, cell_of_row _ _ _ _ _ _ (heap_alloc_new w _)]
  simpa using hj
theorem p10_below {w w' : World} (h : P10 w) (hb : Below w.heap.size w w') : P10 w' := Lib.tabBelow_of_tabIs h w' hb
def textOne (s : Bool) (x : Nat) : List UInt8 := (if s then [45] else []) ++ Lib.decDigits x
def lenOf : Value → Nat
  | .slice _ n _ => n
  | _ => 0
set_option maxHeartbeats 4000000 in
set_option maxRecDepth 100000 in
theorem ztext_one (A : Option Addr) (c : Nat) (s : Bool) (xs : List Nat) (w : World) (h : Dg w A c xs) (hl : xs.length ≤ 1000000) (h0 : 0 < val xs) (h1 : val xs < 1000000000) (htab : P10 w) :
    Calls Tryd.prog 41 #[.agg #[.bool s, .slice A xs.length c]] w fun e w' => e = .returned (.string ⟨(textOne s (val xs)).toArray⟩) ∧ Below w.heap.size w w' := by
  obtain ⟨i0, hi, hz0, hz1, hz2⟩ := info_parts elem9_info
  have TA := Lib.hid (fun W h => take_any A c s xs W h (by omega))
  have e1 : (s && decide (0 < val xs)) = s := by rw [decide_eq_true h0, Bool.and_true]
  rw [e1] at TA
  clear e1
  have HT := Lib.hid htab
  clear htab
  obtain ⟨x, hx⟩ : ∃ x, val xs = x := ⟨_, rfl⟩
  rw [hx] at TA h0 h1
  rw [hx]
  clear hx
  have d1 := digs_one (a := x) (by omega) (by omega)
  have EX := Lib.hid d1
  have hq0 : ((1 : Int) == 0) = false := rfl
  have D10 := digs_one (a := 1000000000) (by omega) (by omega)
  have DM := Lib.hid (fun (A1 B : Option Addr) (c1 d2 : Nat) (V : World) (h1 : Dg V A1 c1 (digs x)) (h2 : Dg V B d2 (digs 1000000000)) => divmod_any A1 B c1 d2 (digs x) (digs 1000000000) V h1 h2 (by rw [d1]; simp) (by rw [D10]; simp) (by rw [val_digs]; omega))
  simp only [val_digs] at DM
  rw [Nat.div_eq_of_lt h1, Nat.mod_eq_of_lt h1, digs_zero, d1, D10] at DM
  have SM := Lib.hid (fun (A1 : Option Addr) (c1 : Nat) (V : World) (h1 : Dg V A1 c1 (digs x)) => small_any A1 c1 (digs x) V h1 (by rw [d1]; simp))
  simp only [val_digs] at SM
  have hs : small? x = x := by unfold small?; rw [if_pos (by omega)]
  have hdd : decide (x < 18446744073709551616) = true := decide_eq_true (by omega)
  rw [hs, hdd, d1] at SM
  have FM := Lib.hid (fun V hv => fmt_any x h0 (by omega) V hv)
  rw [d1] at TA
  have HB := Lib.hid (And.intro h0 h1)
  clear d1 D10 hs hdd h0 h1
  go_enter Tryd.func41, Tryd.ntmps41
  go_wp2_with fail
  refine (TA.out _ (h.below (below1 _ _))).mono ?_
  rintro e w1 ⟨A1, c1, rfl, hd, hb⟩
  have K1 := Lib.hid ((below1 w _).trans (hb.mono (by simp)))
  have G1 := Lib.hid hd
  clear hb hd h TA
  go_wp2_with fail
  refine (zero_any A1 _ c1 _ false rfl).mono ?_
  rintro e w2 ⟨rfl, hb⟩
  have RX := Lib.hid (cells_of (heap_alloc_new w1 (.cells #[.slice A1 1 c1, .bool s] 59)) hb)
  have K2 := Lib.hid (K1.out.trans (((below1 _ _).trans (hb.mono (by simp))).mono K1.out.size))
  have G2 := Lib.hid ((G1.out.below (below1 w1 (.cells #[.slice A1 1 c1, .bool s] 59))).below hb)
  have z2 := heap_lt RX.out
  have f1 := cell_of_row w2 _ 0 _ _ _ RX.out
  have f2 := cell_of_row w2 _ 1 _ _ _ RX.out
  simp only [List.getElem?_toArray, List.getElem?_cons_zero, List.getElem?_cons_succ] at f1 f2
  clear hb
  go_wp2_with fail
  go_loopw [4, 5] (fun pv lv wr => Hid ((lv = .slice A1 1 c1 ∧ pv = .slice none 0 0 ∧ wr = w2) ∨ (∃ A' c', lv = .slice A' 0 c' ∧ pv ≠ .slice none 0 0 ∧ wr.ownsRow w2.heap.size 9 1 pv 1 ([Lib.decDigits x].map Proofs.encStr) ∧ Below w2.heap.size w2 wr))) (fun _ lv _ => lenOf lv)
  case atStart => exact Lib.hid (.inl ⟨rfl, rfl, rfl⟩)
  case round =>
    rcases hrel.out with ⟨rfl, rfl, rfl⟩ | ⟨A', c', rfl, hne, ho, hb⟩
    · clear hrel
      have HN := Lib.hid (Live.get (A := some ⟨wr.heap.size, 0, none⟩) (c := 1) (xs := [1000000000]) ((live_start wr).new1 1000000000 1000000000 rfl (by omega)) (by simp))
      go_wp2_with fail
      refine (DM.out A1 (some ⟨wr.heap.size, 0, none⟩) c1 1 _ (G2.out.below (below1 _ _)) HN.out).mono ?_
      rintro e w3 ⟨A3, c3, B3, d3, rfl, _, hd3, hb⟩
      have K3 := Lib.hid ((below1 _ _).trans (hb.mono (by simp)))
      have G3 := Lib.hid hd3
      clear hb hd3
      go_wp2_with fail
      refine (SM.out B3 d3 _ G3.out).mono ?_
      rintro e w4 ⟨rfl, nn, rfl⟩
      go_wp2_with fail
      refine (FM.out _ (p10_below HT.out (K2.out.trans ((below_drewN K3.out nn).mono K2.out.size)))).mono ?_
      rintro e w5 ⟨rfl, hb⟩
      have K5 := Lib.hid ((below_drewN K3.out nn).trans (hb.mono K3.out.size))
      have z5 := K5.out.size
      clear hb
      go_wp2_with (at_builtin; refine wpList_append_own _ rfl _ _ 84 rfl wr.heap.size 9 i0 (.string ⟨#[]⟩) 1 16 Tryd.underlying84 hi hz0 hz1 hz2 rfl (by decide) _ _ _ rfl (World.ownsRow_nil _ _ _ _) ⟨w5.heap.size, 0, none⟩ 1 1 [.string ⟨(Lib.decDigits x).toArray⟩] rfl rfl (fun j u hj => one_new hj) (by intro u hu; simp at hu; subst hu; rfl) (by unfold maxLen; omega) (by omega) (by simp; omega) ?_)
      intro v' w6 hown hgrow hnil
      have HO := Lib.hid (And.intro hown (show v' ≠ .slice none 0 0 by intro e; simp [e] at hnil))
      have K6 := Lib.hid ((K5.out.alloc z5 (.cells #[.string ⟨(Lib.decDigits x).toArray⟩] 9)).grown hgrow (by simp; omega) (fun k hk => by cases hk))
      clear hown hgrow hnil
      go_wp2
      go_roundw
      case rel => exact Lib.hid (.inr ⟨_, _, rfl, HO.out.2, by simpa using HO.out.1, K6.out⟩)
      case measure => simp [lenOf]
    · clear hrel
      have HO := Lib.hid (And.intro ho hne)
      have K7 := Lib.hid hb
      have g1 := cell_of_row wr _ 0 _ _ _ (cells_of RX.out hb)
      have g2 := cell_of_row wr _ 1 _ _ _ (cells_of RX.out hb)
      simp only [List.getElem?_toArray, List.getElem?_cons_zero, List.getElem?_cons_succ] at g1 g2
      have z7 := hb.size
      clear ho hne hb f1 f2
      cases s
      · go_wp2_with fail
        refine (rev_own w2.heap.size u4 1 [Lib.decDigits x] _ HO.out.1 HO.out.2 (by omega)).mono ?_
        rintro e w8 ⟨rfl, hown, hb⟩
        have HO8 := Lib.hid hown
        have K8 := Lib.hid (K7.out.trans hb)
        clear hown hb g1 g2
        go_wp2_with fail
        refine (join_own w2.heap.size u4 1 _ _ HO8.out HO.out.2 (by omega) (by simp; rw [Lib.decDigits_length]; have := Lib.nDigits_le20 x (by have := HB.out.2; omega); omega)).mono ?_
        rintro e w9 ⟨rfl, hb⟩
        have K9 := Lib.hid (K2.out.trans ((K8.out.trans (hb.mono K8.out.size)).mono K2.out.size))
        clear hb
        go_wp2
        go_ret
        exact ⟨by simp [textOne], K9.out⟩
      · go_wp2_with (at_builtin; refine wpList_append_own _ rfl _ _ 84 rfl w2.heap.size 9 i0 (.string ⟨#[]⟩) 1 16 Tryd.underlying84 hi hz0 hz1 hz2 rfl (by decide) _ _ _ rfl (HO.out.1.alloc _) ⟨wr.heap.size, 0, none⟩ 1 1 [.string ⟨#[45]⟩] rfl rfl (fun j u hj => one_new hj) (by intro u hu; simp at hu; subst hu; rfl) (by unfold maxLen; omega) (by omega) (by simp; omega) ?_; intro v' w7 hown hgrow hnil; refine Hid.out ?_)
        refine Lib.hid ?_
        have HO7 := Lib.hid (And.intro (show w7.ownsRow w2.heap.size 9 1 v' 2 ([Lib.decDigits x, [45]].map Proofs.encStr) from hown) (show v' ≠ .slice none 0 0 by intro e; simp [e] at hnil))
        have K7b := Lib.hid ((K7.out.alloc z7 (.cells #[.string ⟨#[45]⟩] 9)).grown hgrow (by simp; omega) (fun k hk => (HO.out.1.lt k hk).1))
        clear hown hgrow hnil g1 g2
        go_wp2_with fail
        refine (rev_own w2.heap.size v' 2 [Lib.decDigits x, [45]] _ HO7.out.1 HO7.out.2 (by omega)).mono ?_
        rintro e w8 ⟨rfl, hown, hb⟩
        have HO8 := Lib.hid hown
        have K8 := Lib.hid (K7b.out.trans hb)
        clear hown hb
        go_wp2_with fail
        refine (join_own w2.heap.size v' 2 _ _ HO8.out HO7.out.2 (by omega) (by simp; rw [Lib.decDigits_length]; have := Lib.nDigits_le20 x (by have := HB.out.2; omega); omega)).mono ?_
        rintro e w9 ⟨rfl, hb⟩
        have K9 := Lib.hid (K2.out.trans ((K8.out.trans (hb.mono K8.out.size)).mono K2.out.size))
        clear hb
        go_wp2
        go_ret
        exact ⟨by simp [textOne], K9.out⟩
end Go.Proofs.YthgkdpfkaobgoaaDoor
end

section
/-
  Decimal digits in parts of nine: the arithmetic of zint.Text.
-/
namespace Go.Proofs.YthgkdpfkaobgoaaDoor
open Go.RowKit
/-- k decimal digits of r, with noughts ahead. -/
def padk : Nat → Nat → List UInt8
  | 0, _ => []
  | k + 1, r => padk k (r / 10) ++ [UInt8.ofNat (48 + r % 10)]
theorem padk_len : ∀ (k r : Nat), (padk k r).length = k
  | 0, _ => rfl
  | k + 1, r => by simp [padk, padk_len k]
theorem padk_zero : ∀ k : Nat, padk k 0 = List.replicate k 48
  | 0 => rfl
  | k + 1 => by
    have e : padk (k + 1) 0 = padk k 0 ++ [48] := rfl
    rw [e, padk_zero k, ← List.replicate_succ']
theorem dec_small {n : Nat} (h : n < 10) : Lib.decDigits n = [UInt8.ofNat (48 + n)] := by rw [Lib.decDigits, dif_pos h]
theorem dec_big {n : Nat} (h : ¬ n < 10) : Lib.decDigits n = Lib.decDigits (n / 10) ++ [UInt8.ofNat (48 + n % 10)] := by rw [Lib.decDigits, dif_neg h]
theorem dec_join : ∀ (k q r : Nat), q ≠ 0 → r < 10 ^ k → Lib.decDigits (q * 10 ^ k + r) = Lib.decDigits q ++ padk k r
  | 0, q, r, _, hr => by
    obtain rfl : r = 0 := by simpa using hr
    simp [padk]
  | k + 1, q, r, hq, hr => by
    have hp : 0 < 10 ^ k := Nat.pow_pos (by omega)
    have e1 : q * 10 ^ (k + 1) + r = 10 * (q * 10 ^ k) + r := by rw [Nat.pow_succ, ← Nat.mul_assoc, Nat.mul_comm]
    have hm : 10 ^ k ≤ q * 10 ^ k := Nat.le_mul_of_pos_left _ (by omega)
    have h10 : ¬ q * 10 ^ (k + 1) + r < 10 := by rw [e1]; omega
    rw [dec_big h10, e1]
    have e2 : (10 * (q * 10 ^ k) + r) / 10 = q * 10 ^ k + r / 10 := by omega
    have e3 : (10 * (q * 10 ^ k) + r) % 10 = r % 10 := by omega
    rw [e2, e3, dec_join k q (r / 10) hq (by rw [Nat.pow_succ] at hr; omega)]
    simp [padk]
theorem padk_eq : ∀ (k r : Nat), 0 < k → r < 10 ^ k → padk k r = List.replicate (k - (Lib.decDigits r).length) 48 ++ Lib.decDigits r
  | 0, _, h, _ => by omega
  | k + 1, r, _, hr => by
    by_cases h : r < 10
    · rw [dec_small h]
      have e : r / 10 = 0 := by omega
      have e2 : r % 10 = r := by omega
      simp only [padk, e, e2, padk_zero, List.length_singleton, Nat.add_sub_cancel]
    · have hk : 0 < k := by
        rcases Nat.eq_zero_or_pos k with rfl | h0
        · simp at hr; omega
        · exact h0
      have ih := padk_eq k (r / 10) hk (by rw [Nat.pow_succ] at hr; omega)
      rw [dec_big h]
      simp only [padk, ih, List.length_append, List.length_singleton, Nat.add_sub_add_right, List.append_assoc]
/-- The digits of what is left; none of nought. -/
def decN (n : Nat) : List UInt8 := if n = 0 then [] else Lib.decDigits n
/-- A part of nine digits. -/
def part9 (r : Nat) : List UInt8 := List.replicate (9 - (Lib.decDigits r).length) 48 ++ Lib.decDigits r
theorem dec_len9 {r : Nat} (h : r < 1000000000) : (Lib.decDigits r).length ≤ 9 ∧ 0 < (Lib.decDigits r).length := by
  have h1 := padk_eq 9 r (by omega) h
  have h2 := padk_len 9 r
  rw [h1] at h2
  simp only [List.length_append, List.length_replicate] at h2
  refine ⟨by omega, ?_⟩
  by_cases h : r < 10
  · rw [dec_small h]; simp
  · rw [dec_big h]; simp
theorem dec_step {y : Nat} (h0 : y / 1000000000 ≠ 0) : decN (y / 1000000000) ++ part9 (y % 1000000000) = decN y := by
  have hy : y ≠ 0 := by intro e; rw [e] at h0; simp at h0
  unfold decN part9
  rw [if_neg h0, if_neg hy, ← padk_eq 9 _ (by omega) (Nat.mod_lt _ (by omega)), ← dec_join 9 _ _ h0 (Nat.mod_lt _ (by omega))]
  have := Nat.div_add_mod y 1000000000
  rw [show (10 : Nat) ^ 9 = 1000000000 by decide, Nat.mul_comm]
  rw [this]
theorem dec_last {y : Nat} (hy : y ≠ 0) (h0 : y / 1000000000 = 0) : decN (y / 1000000000) ++ Lib.decDigits (y % 1000000000) = decN y := by
  have e : y % 1000000000 = y := by omega
  unfold decN
  rw [h0, if_pos rfl, if_neg hy, e]; rfl
theorem dec_ten {y : Nat} (hy : y ≠ 0) : decN (y / 10) ++ [UInt8.ofNat (48 + y % 10)] = decN y := by
  unfold decN
  rw [if_neg hy]
  by_cases h : y < 10
  · rw [if_pos (by omega), dec_small h, show y % 10 = y by omega]; rfl
  · rw [if_neg (by omega), dec_big h]
theorem decN_pos {y : Nat} (h : y ≠ 0) : decN y = Lib.decDigits y := by unfold decN; rw [if_neg h]
/-- What Text tells. -/
def textZ (s : Bool) (x : Nat) : List UInt8 := if x = 0 then [48] else (if s then [45] else []) ++ Lib.decDigits x
theorem dec_len (n : Nat) : ∀ k, n < 10 ^ k → 0 < k → (Lib.decDigits n).length ≤ k := fun k h hk => by
  have h1 := padk_eq k n hk h
  have h2 := padk_len k n
  rw [h1] at h2
  simp only [List.length_append, List.length_replicate] at h2
  omega
end Go.Proofs.YthgkdpfkaobgoaaDoor
end

section
/-
  zint.Text of any number: nine decimal digits a part.
-/
namespace Go.Proofs.YthgkdpfkaobgoaaDoor
open Go.RowKit Go.Sort
theorem repeat_48 : ∀ k : Nat, Lib.repeatL [48] k = List.replicate k 48
  | 0 => rfl
  | k + 1 => by rw [Lib.repeatL, repeat_48 k]; rfl
theorem rep_any (k : Nat) (i : Int) (hi : i = (k : Int)) (hk : k ≤ 9) (w : World) :
    Calls Tryd.prog 71 #[.string ⟨#[48]⟩, .int .i64 i] w fun e w' => e = .returned (.string ⟨(List.replicate k 48).toArray⟩) ∧ Below w.heap.size w w' := by
  subst hi
  have h := Tryd.strings_Repeat ⟨#[48]⟩ k w (by omega) (by show 1 * k ≤ _; omega)
  have e : Lib.repeatL (⟨#[48]⟩ : ByteArray).data.toList k = List.replicate k 48 := repeat_48 k
  rw [e] at h
  exact h
set_option maxHeartbeats 1000000 in
set_option maxRecDepth 100000 in
theorem ifmt_zero (w : World) :
    Calls Tryd.prog 86 #[.int .u64 0, .int .i64 10] w fun e w' => e = .returned (.string ⟨(Lib.decDigits 0).toArray⟩) ∧ Below w.heap.size w w' := by
  go_enter Tryd.func86, Tryd.ntmps86
  go_wp2_with fail
  refine (Tryd.internal_strconv_small 0 (by omega) _).mono ?_
  rintro e w' ⟨rfl, rfl⟩
  go_wp2
  go_ret
  exact ⟨rfl, Below.refl _ _⟩
set_option maxHeartbeats 1000000 in
set_option maxRecDepth 100000 in
theorem fmt_all (u : Nat) (hu64 : u < 18446744073709551616) (w : World) (htab : P10 w) :
    Calls Tryd.prog 70 #[.int .u64 u, .int .i64 10] w fun e w' => e = .returned (.string ⟨(Lib.decDigits u).toArray⟩) ∧ Below w.heap.size w w' := by
  rcases Nat.eq_zero_or_pos u with h0 | h0
  · subst h0
    have HC := Lib.hid (ifmt_zero w)
    clear htab hu64
    go_enter Tryd.func70, Tryd.ntmps70
    go_wp2_with fail
    refine HC.out.mono ?_
    rintro e w' ⟨rfl, hb⟩
    have HB := Lib.hid hb
    clear hb
    go_wp2
    go_ret
    exact ⟨rfl, HB.out⟩
  · exact fmt_any u h0 hu64 w htab
/-- Digits that lie in fresh blocks are not touched where a row grows. -/
theorem Dg.grown {w w' : World} {A : Option Addr} {c N : Nat} {xs : List Nat} {r : Option Nat} (h : Dg w A c xs) (hf : Fr N A) (hg : w.grownBy w' r) (hr : ∀ k, r = some k → k < N) : Dg w' A c xs :=
  ⟨h.1, h.2.1, fun h0 => by
    obtain ⟨b, off, e, hb, hc⟩ := h.2.2 h0
    refine ⟨b, off, e, Nat.lt_of_lt_of_le hb hg.size, fun j hj => hg.cell (hc j hj) (fun e' => ?_)⟩
    have h1 := hr b e'.symm
    have h2 := hf b off e
    omega⟩
theorem cat_str (a b : List UInt8) : (⟨a.toArray⟩ : ByteArray) ++ ⟨b.toArray⟩ = ⟨(a ++ b).toArray⟩ := by
  apply ByteArray.ext
  simp [ByteArray.data_append]
theorem pow_room {k g x : Nat} (h : 2 ^ (29 * k) * g ≤ x) (hg : g ≠ 0) {m : Nat} (hm : m ≤ 1000) (hx : x < 4294967296 ^ m) : k ≤ 1103 := by
  rcases Nat.lt_or_ge 1103 k with hk | hk
  · exfalso
    have h1 : 2 ^ (29 * k) ≤ x := Nat.le_trans (Nat.le_mul_of_pos_right _ (by omega)) h
    have h2 : (4294967296 : Nat) ^ m = 2 ^ (32 * m) := by rw [show (4294967296 : Nat) = 2 ^ 32 by decide, ← Nat.pow_mul]
    have h3 : 2 ^ (32 * m) ≤ 2 ^ (29 * k) := Nat.pow_le_pow_right (by omega) (by omega)
    omega
  · exact hk
theorem pow_next {k g x : Nat} (h : 2 ^ (29 * k) * g ≤ x) : 2 ^ (29 * (k + 1)) * (g / 1000000000) ≤ x := by
  have e : 2 ^ (29 * (k + 1)) = 2 ^ (29 * k) * 536870912 := by rw [Nat.mul_add, Nat.pow_add]
  rw [e, Nat.mul_assoc]
  refine Nat.le_trans (Nat.mul_le_mul_left _ ?_) h
  omega
theorem flat_len : ∀ zs : List (List UInt8), (∀ z ∈ zs, z.length ≤ 9) → zs.flatten.length ≤ 9 * zs.length
  | [], _ => by simp
  | z :: zs, h => by
    have h1 := h z (by simp)
    have h2 := flat_len zs (fun y hy => h y (by simp [hy]))
    simp only [List.flatten_cons, List.length_append, List.length_cons]
    omega
theorem own_later {w w' : World} {base size n : Nat} {e : TypeId} {v : Value} {xs : List Value} (h : w.ownsRow base e size v n xs) (hb : Below w.heap.size w w') : w'.ownsRow base e size v n xs := by
  refine ⟨h.1, ?_⟩
  rcases h.2 with h1 | ⟨g, cap, cur, hv, hg, hc, rest⟩
  · exact .inl h1
  · exact .inr ⟨g, cap, cur, hv, hg, (hb.block g (heap_lt hc)).trans hc, rest⟩
theorem text_step {q g : Nat} {p X : List UInt8} {zs : List (List UInt8)} (h : decN q ++ p = decN g) (hd : decN g ++ zs.reverse.flatten = X) : decN q ++ (zs ++ [p]).reverse.flatten = X := by
  rw [List.reverse_append]
  simp only [List.reverse_cons, List.reverse_nil, List.nil_append, List.singleton_append, List.flatten_cons]
  rw [← List.append_assoc, h, hd]
theorem nine_add {zs : List (List UInt8)} {p : List UInt8} (h : ∀ z ∈ zs, z.length ≤ 9) (hp : p.length ≤ 9) : ∀ z ∈ zs ++ [p], z.length ≤ 9 := fun z hz => by
  rcases List.mem_append.1 hz with h1 | h1
  · exact h z h1
  · rw [List.mem_singleton.1 h1]; exact hp
set_option maxHeartbeats 8000000 in
set_option maxRecDepth 100000 in
theorem ztext_pos (A : Option Addr) (c : Nat) (s : Bool) (xs : List Nat) (w : World) (h : Dg w A c xs) (hl : xs.length ≤ 1000) (h0 : 0 < val xs) (htab : P10 w) :
    Calls Tryd.prog 41 #[.agg #[.bool s, .slice A xs.length c]] w fun e w' => e = .returned (.string ⟨(textOne s (val xs)).toArray⟩) ∧ Below w.heap.size w w' := by
  obtain ⟨i0, hi, hz0, hz1, hz2⟩ := info_parts elem9_info
  have TA := Lib.hid (fun W h => take_any A c s xs W h (by omega))
  have e1 : (s && decide (0 < val xs)) = s := by rw [decide_eq_true h0, Bool.and_true]
  rw [e1] at TA
  clear e1
  have HT := Lib.hid htab
  clear htab
  have XB := Lib.hid (val_lt h.2.1)
  have lx := digs_len_le h.2.1
  obtain ⟨x, hx⟩ : ∃ x, val xs = x := ⟨_, rfl⟩
  rw [hx] at TA h0 XB lx
  rw [hx]
  clear hx
  have d0 : 0 < (digs x).length := by
    rcases Nat.eq_zero_or_pos (digs x).length with h1 | h1
    · have := digs_nil.1 h1; omega
    · exact h1
  have q0 : (((digs x).length : Int) == 0) = false := len_ne (by omega)
  have H0 := Lib.hid h0
  have D0 := Lib.hid d0
  have D10 := Lib.hid (digs_one (a := 1000000000) (by omega) (by omega))
  have dx : (digs x).length ≤ 1000 := by omega
  have DX := Lib.hid dx
  clear lx dx h0 d0
  go_enter Tryd.func41, Tryd.ntmps41
  go_wp2_with fail
  refine (TA.out _ (h.below (below1 _ _))).mono ?_
  rintro e w1 ⟨A1, c1, rfl, hd, hb⟩
  have K1 := Lib.hid ((below1 w _).trans (hb.mono (by simp)))
  have G1 := Lib.hid hd
  clear hb hd h TA
  go_wp2_with fail
  refine (zero_any A1 _ c1 _ false q0).mono ?_
  rintro e w2 ⟨rfl, hb⟩
  clear q0
  have RX := Lib.hid (cells_of (heap_alloc_new w1 (.cells #[.slice A1 (digs x).length c1, .bool s] 59)) hb)
  have K2 := Lib.hid (K1.out.trans (((below1 _ _).trans (hb.mono (by simp))).mono K1.out.size))
  have G2 := Lib.hid ((G1.out.below (below1 w1 (.cells #[.slice A1 (digs x).length c1, .bool s] 59))).below hb)
  have z2 := heap_lt RX.out
  have f1 := cell_of_row w2 _ 0 _ _ _ RX.out
  have f2 := cell_of_row w2 _ 1 _ _ _ RX.out
  simp only [List.getElem?_toArray, List.getElem?_cons_zero, List.getElem?_cons_succ] at f1 f2
  clear hb
  go_wp2_with fail
  go_loopg [4, 5] x (fun g pv lv wr => ∃ (A' : Option Addr) (c' : Nat) (zs : List (List UInt8)), lv = .slice A' (digs g).length c' ∧ Hid (Dg wr A' c' (digs g)) ∧ Hid (wr.ownsRow w2.heap.size 9 1 pv zs.length (zs.map Proofs.encStr)) ∧
    Hid (decN g ++ zs.reverse.flatten = Lib.decDigits x) ∧ Hid (zs = [] → g = x) ∧ Hid (zs ≠ [] → pv ≠ .slice none 0 0) ∧ Hid (Below w2.heap.size w2 wr) ∧ Hid (∀ z ∈ zs, z.length ≤ 9) ∧ Hid (2 ^ (29 * zs.length) * g ≤ x) ∧ Hid (zs.length ≤ 1104) ∧ Hid ((digs g).length ≤ 1000))
  case atStart => exact ⟨A1, c1, [], rfl, G2, Lib.hid (World.ownsRow_nil _ _ _ _), Lib.hid (by rw [decN_pos (by have := H0.out; omega)]; simp), Lib.hid (fun _ => rfl), Lib.hid (fun h => absurd rfl h), Lib.hid (Below.refl _ _), Lib.hid (fun z hz => by simp at hz), Lib.hid (by simp), Lib.hid (by simp), DX⟩
  case round =>
    obtain ⟨A', c', zs, rfl, HG, HO, HD, HI, HN, HB, HZ, HP, HK, HL⟩ := hrel
    by_cases hg0 : gk = 0
    · subst hg0
      rw [digs_zero]
      have HE := Lib.hid (show zs.reverse.flatten = Lib.decDigits x by have := HD.out; simpa [decN] using this)
      have hzs : zs ≠ [] := fun e => by have h1 := HI.out e; have h2 := H0.out; omega
      have HNN := Lib.hid (HN.out hzs)
      have HZS := Lib.hid (show zs ≠ [] from hzs)
      clear hzs
      have g1 := cell_of_row wr _ 0 _ _ _ (cells_of RX.out HB.out)
      have g2 := cell_of_row wr _ 1 _ _ _ (cells_of RX.out HB.out)
      simp only [List.getElem?_toArray, List.getElem?_cons_zero, List.getElem?_cons_succ] at g1 g2
      have z7 := HB.out.size
      have hk := HK.out
      clear f1 f2
      have FL := Lib.hid (show zs.reverse.flatten.length ≤ 9 * 1104 from Nat.le_trans (flat_len _ (fun z hz => HZ.out z (by simpa using hz))) (by simp; omega))
      cases s
      · go_wp2_with fail
        refine (rev_own w2.heap.size u4 zs.length zs _ HO.out HNN.out (by omega)).mono ?_
        rintro e w8 ⟨rfl, hown, hb⟩
        have HO8 := Lib.hid hown
        have K8 := Lib.hid (HB.out.trans hb)
        clear hown hb g1 g2
        go_wp2_with fail
        refine (join_own w2.heap.size u4 zs.length _ _ HO8.out HNN.out (by omega) (by have := FL.out; omega)).mono ?_
        rintro e w9 ⟨rfl, hb⟩
        have K9 := Lib.hid (K2.out.trans ((K8.out.trans (hb.mono K8.out.size)).mono K2.out.size))
        clear hb
        go_wp2
        go_ret
        exact ⟨by rw [HE.out]; simp [textOne], K9.out⟩
      · go_wp2_with (at_builtin; refine wpList_append_own _ rfl _ _ 84 rfl w2.heap.size 9 i0 (.string ⟨#[]⟩) 1 16 Tryd.underlying84 hi hz0 hz1 hz2 rfl (by decide) _ _ _ rfl (HO.out.alloc _) ⟨wr.heap.size, 0, none⟩ 1 1 [.string ⟨#[45]⟩] rfl rfl (fun j u hj => one_new hj) (by intro u hu; simp at hu; subst hu; rfl) (by unfold maxLen; omega) (by omega) (by simp; omega) ?_; intro v' w7 hown hgrow hnil; refine Hid.out ?_)
        refine Lib.hid ?_
        have HO7 := Lib.hid (And.intro (show w7.ownsRow w2.heap.size 9 1 v' (zs.length + 1) ((zs ++ [[45]]).map Proofs.encStr) by rw [List.map_append]; exact hown) (show v' ≠ .slice none 0 0 by intro e; simp [e] at hnil))
        have K7b := Lib.hid ((HB.out.alloc z7 (.cells #[.string ⟨#[45]⟩] 9)).grown hgrow (by simp; omega) (fun k hk => (HO.out.lt k hk).1))
        clear hown hgrow hnil g1 g2
        go_wp2_with fail
        refine (rev_own w2.heap.size v' (zs.length + 1) (zs ++ [[45]]) _ HO7.out.1 HO7.out.2 (by omega)).mono ?_
        rintro e w8 ⟨rfl, hown, hb⟩
        have HO8 := Lib.hid hown
        have K8 := Lib.hid (K7b.out.trans hb)
        clear hown hb
        go_wp2_with fail
        refine (join_own w2.heap.size v' (zs.length + 1) _ _ HO8.out HO7.out.2 (by omega) (by rw [List.reverse_append]; simp only [List.reverse_cons, List.reverse_nil, List.nil_append, List.flatten_append, List.flatten_cons, List.flatten_nil, List.append_nil, List.length_append, List.length_singleton]; have := FL.out; omega)).mono ?_
        rintro e w9 ⟨rfl, hb⟩
        have K9 := Lib.hid (K2.out.trans ((K8.out.trans (hb.mono K8.out.size)).mono K2.out.size))
        clear hb
        go_wp2
        go_ret
        exact ⟨by simp [textOne, HE.out], K9.out⟩
    · have t0 : 0 < (digs gk).length := by
        rcases Nat.eq_zero_or_pos (digs gk).length with h1 | h1
        · exact absurd (digs_nil.1 h1) hg0
        · exact h1
      have hk1 := pow_room HP.out hg0 hl XB.out
      have HDM := divmod_f A' (some ⟨wr.heap.size, 0, none⟩) c' 1 (digs gk) [1000000000] (wr.alloc (.cells #[.int .u32 1000000000] 75)) (HG.out.below (below1 _ _)) (Live.get (A := some ⟨wr.heap.size, 0, none⟩) (c := 1) (xs := [1000000000]) ((live_start wr).new1 1000000000 1000000000 rfl (by omega)) (by simp)) (by have := HL.out; omega) (by simp) (by simp [val]) (by rw [show val [1000000000] = 1000000000 by simp [val], D10.out]; rfl)
      rw [val_digs, show val [1000000000] = 1000000000 by simp [val]] at HDM
      have HST := Lib.hid (fun h => dec_step (y := gk) h)
      have HLA := Lib.hid (fun h => dec_last (y := gk) hg0 h)
      have HPN := Lib.hid (pow_next HP.out)
      have HQG := Lib.hid (show gk / 1000000000 < gk by omega)
      have HQL := Lib.hid (Nat.le_trans (digs_len_mono _ _ (Nat.div_le_self gk 1000000000)) HL.out)
      have hr9 : gk % 1000000000 < 1000000000 := Nat.mod_lt _ (by omega)
      generalize gk / 1000000000 = q at *
      generalize gk % 1000000000 = r at *
      have HDM' := Lib.hid HDM
      have HR9 := Lib.hid hr9
      have HG0 := Lib.hid hg0
      have FM := Lib.hid (fun V hv => fmt_all r (by omega) V hv)
      have SM := Lib.hid (fun (A1 : Option Addr) (c1 : Nat) (V : World) (h1 : Dg V A1 c1 (digs r)) => small_any A1 c1 (digs r) V h1 (Nat.le_trans (digs_small (n := r) (by omega)) (by omega)))
      simp only [val_digs] at SM
      have hs : small? r = r := by unfold small?; rw [if_pos (by omega)]
      have hdd : decide (r < 18446744073709551616) = true := decide_eq_true (by omega)
      rw [hs, hdd] at SM
      have DL := dec_len9 hr9
      have P9 := Lib.hid (show part9 r = List.replicate (9 - (Lib.decDigits r).length) 48 ++ Lib.decDigits r from rfl)
      generalize Lib.decDigits r = dl at *
      obtain ⟨dl9, dl0⟩ := DL
      have HDL9 := Lib.hid dl9
      have HDL0 := Lib.hid dl0
      clear HDM hs hdd hr9 hg0 dl9 dl0
      have HK1 := Lib.hid hk1
      clear hk1
      go_wp2_with fail
      refine HDM'.out.mono ?_
      rintro e w3 ⟨A3, c3, B3, d3, rfl, hd, hd3, hb, hfr⟩
      have K3 := Lib.hid ((below1 _ _).trans (hb.mono (by simp)))
      have Q3 := Lib.hid hd
      have G3 := Lib.hid hd3
      have F3 := Lib.hid (show Fr (wr.heap.size + 1) A3 by simpa using hfr)
      clear hb hd hd3 hfr
      go_wp2_with fail
      refine (SM.out B3 d3 _ G3.out).mono ?_
      rintro e w4 ⟨rfl, nn, rfl⟩
      go_wp2_with fail
      refine (FM.out _ (p10_below HT.out (K2.out.trans ((HB.out.trans ((below_drewN K3.out nn).mono HB.out.size)).mono K2.out.size)))).mono ?_
      rintro e w5 ⟨rfl, hb⟩
      have K5 := Lib.hid ((below_drewN K3.out nn).trans (hb.mono K3.out.size))
      have Q5 := Lib.hid ((Q3.out.drewN nn).below hb)
      clear hb
      have HO5 := Lib.hid (own_later HO.out K5.out)
      have KB5 := Lib.hid (HB.out.trans (K5.out.mono HB.out.size))
      have z6 := HB.out.size
      have z5 := K5.out.size
      have zl : zs.length ≤ 1103 := HK1.out
      by_cases hq0 : q = 0
      · subst hq0
        rw [digs_zero]
        go_wp2_with (at_builtin; refine wpList_append_own _ rfl _ _ 84 rfl w2.heap.size 9 i0 (.string ⟨#[]⟩) 1 16 Tryd.underlying84 hi hz0 hz1 hz2 rfl (by decide) _ _ _ rfl (HO5.out.alloc _) ⟨w5.heap.size, 0, none⟩ 1 1 [.string ⟨(dl).toArray⟩] rfl rfl (fun j u hj => one_new hj) (by intro u hu; simp at hu; subst hu; rfl) (by unfold maxLen; omega) (by omega) (by simp; omega) ?_)
        intro v' w6 hown hgrow hnil
        have HO6 := Lib.hid (And.intro (show w6.ownsRow w2.heap.size 9 1 v' (zs.length + 1) ((zs ++ [dl]).map Proofs.encStr) by rw [List.map_append]; exact hown) (show v' ≠ .slice none 0 0 by intro e; simp [e] at hnil))
        have K6 := Lib.hid ((KB5.out.alloc (by omega) (.cells #[.string ⟨(dl).toArray⟩] 9)).grown hgrow (by simp; omega) (fun k hk => (HO5.out.lt k hk).1))
        have Q6 := Lib.hid (show Dg w6 A3 c3 (digs 0) by rw [digs_zero]; exact Dg.nil_ _ _)
        clear hown hgrow hnil
        go_wp2
        go_roundg 0
        case measure => exact HQG.out
        case rel =>
          refine ⟨A3, c3, zs ++ [dl], by rw [digs_zero]; rfl, Q6, Lib.hid (by rw [List.length_append]; exact HO6.out.1), Lib.hid (text_step (HLA.out (by trivial)) HD.out), Lib.hid (fun e => by simp at e), Lib.hid (fun _ => HO6.out.2), K6, Lib.hid (nine_add HZ.out HDL9.out), Lib.hid (by rw [List.length_append]; exact HPN.out), Lib.hid (by rw [List.length_append]; have := HK1.out; simp; omega), HQL⟩
      · have tq : 0 < (digs q).length := by
          rcases Nat.eq_zero_or_pos (digs q).length with h1 | h1
          · exact absurd (digs_nil.1 h1) hq0
          · exact h1
        have HQ0 := Lib.hid hq0
        clear hq0
        have hcat := cat_str (List.replicate (9 - dl.length) 48) dl
        have dl9 : dl.length ≤ 9 := HDL9.out
        go_wp2_with fail
        refine (rep_any (9 - dl.length) _ (by first | omega | (rw [IntWalk.wrap64_in _ (by omega)]; omega)) (by omega) _).mono ?_
        rintro e w7 ⟨rfl, hb⟩
        have K7 := Lib.hid (K5.out.trans (hb.mono K5.out.size))
        have Q7 := Lib.hid (Q5.out.below hb)
        have HO7 := Lib.hid (own_later HO5.out hb)
        have KB7 := Lib.hid (HB.out.trans (K7.out.mono HB.out.size))
        have z7 := K7.out.size
        clear hb
        go_wp2_with (at_builtin; refine wpList_append_own _ rfl _ _ 84 rfl w2.heap.size 9 i0 (.string ⟨#[]⟩) 1 16 Tryd.underlying84 hi hz0 hz1 hz2 rfl (by decide) _ _ _ rfl (HO7.out.alloc _) ⟨w7.heap.size, 0, none⟩ 1 1 [.string ⟨(List.replicate (9 - dl.length) 48 ++ dl).toArray⟩] rfl rfl (fun j u hj => one_new hj) (by intro u hu; simp at hu; subst hu; rfl) (by unfold maxLen; omega) (by omega) (by simp; omega) ?_)
        intro v' w6 hown hgrow hnil
        have HO6 := Lib.hid (And.intro (show w6.ownsRow w2.heap.size 9 1 v' (zs.length + 1) ((zs ++ [List.replicate (9 - dl.length) 48 ++ dl]).map Proofs.encStr) by rw [List.map_append]; exact hown) (show v' ≠ .slice none 0 0 by intro e; simp [e] at hnil))
        have K6 := Lib.hid ((KB7.out.alloc (by omega) (.cells #[.string ⟨(List.replicate (9 - dl.length) 48 ++ dl).toArray⟩] 9)).grown hgrow (by simp; omega) (fun k hk => (HO7.out.lt k hk).1))
        have Q6 := Lib.hid ((Q7.out.below (below1 w7 _)).grown F3.out hgrow (fun k hk => by have := (HO.out.lt k hk).2; omega))
        clear hown hgrow hnil
        go_wp2
        go_roundg q
        case measure => exact HQG.out
        case rel =>
          refine ⟨A3, c3, zs ++ [List.replicate (9 - dl.length) 48 ++ dl], rfl, Q6, Lib.hid (by rw [List.length_append]; exact HO6.out.1), Lib.hid (text_step (by rw [← P9.out]; exact HST.out HQ0.out) HD.out), Lib.hid (fun e => by simp at e), Lib.hid (fun _ => HO6.out.2), K6, Lib.hid (nine_add HZ.out (by simp; omega)), Lib.hid (by rw [List.length_append]; exact HPN.out), Lib.hid (by rw [List.length_append]; have := HK1.out; simp; omega), HQL⟩
end Go.Proofs.YthgkdpfkaobgoaaDoor
end
