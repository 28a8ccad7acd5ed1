import Derived.Test.YthgkdpfkaobgoaaDoorM5
import Derived.Test.YthgkdpfkaobgoaaDoorM4
import Derived.Test.YthgkdpfkaobgoaaDoorM1
import Derived.Test.YthgkdpfkaobgoaaDoorM3
section
/-
  astrolaberef04's Add, Sub, Mul.
-/
namespace Go.Proofs.YthgkdpfkaobgoaaDoor
open Go.RowKit
theorem zr_end {w w4 : World} {A4 : Option Addr} {c4 : Nat} {z : Int} (g : Nat) (hg : w.heap.size ≤ g) (hd : Dg w4 A4 c4 (digs z.natAbs)) (ho : Off g A4 (digs z.natAbs)) (hb : Below w.heap.size w w4) (v v' : Value) :
    Zr z w (.returned (.agg #[.bool (decide (z < 0)), .slice A4 (digs z.natAbs).length c4])) ((w4.setCell ⟨g, 0, none⟩ v).setCell ⟨g, 1, none⟩ v') :=
  ⟨A4, c4, rfl, (hd.set_off ho _ _).set_off ho _ _, (hb.setCell (by simpa using hg) _).setCell (by simpa using hg) _⟩
set_option maxHeartbeats 4000000 in
set_option maxRecDepth 100000 in
theorem rzadd_same (A B : Option Addr) (c d : Nat) (s : Bool) (xs ys : List Nat) (w : World) (h : Dg w A c xs) (h' : Dg w B d ys) (hl : xs.length ≤ 900000) (hl' : ys.length ≤ 900000) :
    Calls Tryd.prog 16 #[.agg #[.bool s, .slice A xs.length c], .agg #[.bool s, .slice B ys.length d]] w fun e w' => Zr (sg s (val xs + val ys)) w e w' := by
  have l1 := digs_len_le h.2.1
  have l2 := digs_len_le h'.2.1
  have l3 := digs_add_len (val xs) (val ys)
  have hss : (s == s) = true := by simp
  have TA := Lib.hid (fun W h h' => radd_any A B c d xs ys W h h' (by omega) (by omega))
  have TM := Lib.hid (fun A' c' W h => rmake_any A' c' s (digs (val xs + val ys)) W h (by omega))
  rw [val_digs] at TM
  generalize sg s (val xs + val ys) = z at *
  go_enter Tryd.func16, Tryd.ntmps16
  go_wp2
  go_region_held3 (fun w' => (∀ b o, b < w.heap.size + 2 → w'.cell? ⟨b, o, none⟩ = (((w.alloc (.cells #[.bool s, .slice A xs.length c] 24)).alloc (.cells #[.bool s, .slice B ys.length d] 24)).alloc (.cells #[.bool false, .slice none 0 0] 24)).cell? ⟨b, o, none⟩))
    (first | exact fun _ _ _ => rfl | with_reducible exact (bcellB (K1.out.mono (N2 _ _ _ _))).1 | with_reducible exact (bcellB (K2.out.mono (N2 _ _ _ _))).1 | exact (bcellB (((K2.out.mono (N2 _ _ _ _)).setCell (by simp) _).setCell (by simp) _)).1)
    (first
      | (go_at_call 47; ((with_reducible refine (TA.out _ (h.below (below_drew (below3 _ _ _ _))) (h'.below (below_drew (below3 _ _ _ _)))).mono ?_); rintro e w1 ⟨A1, c1, rfl, hd, hb⟩; (have K1 := Lib.hid (undrew hb)); (have G1 := Lib.hid hd); clear hb hd))
      | (go_at_call 26; ((with_reducible refine (TM.out _ _ _ G1.out).mono ?_); rintro e w2 ⟨A2, c2, rfl, hd, hb⟩; (have K2 := Lib.hid (K1.out.trans (hb.mono K1.out.size))); (obtain ⟨hc2, hf2⟩ := bcell K2.out); (have HO2 := Lib.hid (off_box (g := w.heap.size + 1 + 1) hd K2.out (by simp) noint2')); (have G2 := Lib.hid hd); clear hb hd)))
  go_wp2
  refine bodyPost_ret (v := .agg #[.bool (decide (z < 0)), .slice A2 (digs z.natAbs).length c2]) (by simp [results, Tryd.results16, go_sem, hc2]) rfl ?_
  exact zr_end _ (by omega) G2.out HO2.out ((below3 w _ _ _).trans (K2.out.mono (by simp; omega))) _ _
set_option maxHeartbeats 4000000 in
set_option maxRecDepth 100000 in
theorem rzadd_ge (A B : Option Addr) (c d : Nat) (s r : Bool) (xs ys : List Nat) (w : World) (h : Dg w A c xs) (h' : Dg w B d ys) (hl : xs.length ≤ 900000) (hl' : ys.length ≤ 900000) (hsr : (s == r) = false) (hle : val ys ≤ val xs) :
    Calls Tryd.prog 16 #[.agg #[.bool s, .slice A xs.length c], .agg #[.bool r, .slice B ys.length d]] w fun e w' => Zr (sg s (val xs - val ys)) w e w' := by
  have l1 := digs_len_le h.2.1
  have l3 := digs_sub_len (val xs) (val ys)
  have TA := Lib.hid (fun W h h' => rsub_yes A B c d xs ys W h h' (by omega) (by omega) hle)
  have TM := Lib.hid (fun A' c' W h => rmake_any A' c' s (digs (val xs - val ys)) W h (by omega))
  rw [val_digs] at TM
  generalize sg s (val xs - val ys) = z at *
  clear hle
  go_enter Tryd.func16, Tryd.ntmps16
  go_wp2_with fail
  refine (TA.out _ (h.below (below3 _ _ _ _)) (h'.below (below3 _ _ _ _))).mono ?_
  rintro e w1 ⟨A1, c1, rfl, hd, hb⟩
  have K1 := Lib.hid hb
  have G1 := Lib.hid hd
  obtain ⟨hc1, hf1⟩ := bcell hb
  clear hb hd
  go_wp2_with fail
  refine (TM.out _ _ _ G1.out).mono ?_
  rintro e w2 ⟨A2, c2, rfl, hd, hb⟩
  have K2 := Lib.hid (K1.out.trans (hb.mono K1.out.size))
  obtain ⟨hc2, hf2⟩ := bcell K2.out
  have HO2 := Lib.hid (off_box (g := w.heap.size + 1 + 1) hd K2.out (by simp) noint2')
  have G2 := Lib.hid hd
  clear hb hd
  go_wp2
  refine bodyPost_ret (v := .agg #[.bool (decide (z < 0)), .slice A2 (digs z.natAbs).length c2]) (by simp [results, Tryd.results16, go_sem, hc2]) rfl ?_
  exact zr_end _ (by omega) G2.out HO2.out ((below3 w _ _ _).trans (K2.out.mono (by simp; omega))) _ _
set_option maxHeartbeats 4000000 in
set_option maxRecDepth 100000 in
theorem rzadd_lt (A B : Option Addr) (c d : Nat) (s r : Bool) (xs ys : List Nat) (w : World) (h : Dg w A c xs) (h' : Dg w B d ys) (hl : xs.length ≤ 900000) (hl' : ys.length ≤ 900000) (hsr : (s == r) = false) (hlt : val xs < val ys) :
    Calls Tryd.prog 16 #[.agg #[.bool s, .slice A xs.length c], .agg #[.bool r, .slice B ys.length d]] w fun e w' => Zr (sg r (val ys - val xs)) w e w' := by
  have l1 := digs_len_le h'.2.1
  have l3 := digs_sub_len (val ys) (val xs)
  have TA := Lib.hid (fun W h h' => rsub_yes B A d c ys xs W h' h (by omega) (by omega) (Nat.le_of_lt hlt))
  have TN := Lib.hid (fun W h h' => rsub_no A B c d xs ys W h h' (by omega) (by omega) hlt)
  have TM := Lib.hid (fun A' c' W h => rmake_any A' c' r (digs (val ys - val xs)) W h (by omega))
  rw [val_digs] at TM
  generalize sg r (val ys - val xs) = z at *
  clear hlt
  go_enter Tryd.func16, Tryd.ntmps16
  go_wp2_with fail
  refine (TN.out _ (h.below (below3 _ _ _ _)) (h'.below (below3 _ _ _ _))).mono ?_
  rintro e w0 ⟨rfl, rfl⟩
  go_wp2_with fail
  refine (TA.out _ (h.below (below3 _ _ _ _)) (h'.below (below3 _ _ _ _))).mono ?_
  rintro e w1 ⟨A1, c1, rfl, hd, hb⟩
  have K1 := Lib.hid hb
  have G1 := Lib.hid hd
  obtain ⟨hc1, hf1⟩ := bcell hb
  clear hb hd
  go_wp2_with fail
  refine (TM.out _ _ _ G1.out).mono ?_
  rintro e w2 ⟨A2, c2, rfl, hd, hb⟩
  have K2 := Lib.hid (K1.out.trans (hb.mono K1.out.size))
  obtain ⟨hc2, hf2⟩ := bcell K2.out
  have HO2 := Lib.hid (off_box (g := w.heap.size + 1 + 1) hd K2.out (by simp) noint2')
  have G2 := Lib.hid hd
  clear hb hd
  go_wp2
  refine bodyPost_ret (v := .agg #[.bool (decide (z < 0)), .slice A2 (digs z.natAbs).length c2]) (by simp [results, Tryd.results16, go_sem, hc2]) rfl ?_
  exact zr_end _ (by omega) G2.out HO2.out ((below3 w _ _ _).trans (K2.out.mono (by simp; omega))) _ _
theorem rzadd_any (A B : Option Addr) (c d : Nat) (s r : Bool) (xs ys : List Nat) (w : World) (h : Dg w A c xs) (h' : Dg w B d ys) (hl : xs.length ≤ 900000) (hl' : ys.length ≤ 900000) :
    Calls Tryd.prog 16 #[.agg #[.bool s, .slice A xs.length c], .agg #[.bool r, .slice B ys.length d]] w fun e w' => Zr (sg s (val xs) + sg r (val ys)) w e w' := by
  cases hsr : (s == r)
  · rcases Nat.lt_or_ge (val xs) (val ys) with hlt | hge
    · rw [← sg_less hsr hlt]; exact rzadd_lt A B c d s r xs ys w h h' hl hl' hsr hlt
    · rw [← sg_more hsr hge]; exact rzadd_ge A B c d s r xs ys w h h' hl hl' hsr hge
  · have e : s = r := by simpa using hsr
    subst e
    rw [← sg_same]; exact rzadd_same A B c d s xs ys w h h' hl hl'
/-- An answer's digits and sign are the number's. -/
theorem sg_dec (z : Int) : sg (decide (z < 0)) (val (digs z.natAbs)) = z := by
  rw [val_digs]; unfold sg
  by_cases h : z < 0
  · rw [decide_eq_true h]; simp; omega
  · rw [decide_eq_false h]; simp; omega
set_option maxHeartbeats 4000000 in
set_option maxRecDepth 100000 in
theorem rzsub_any (A B : Option Addr) (c d : Nat) (s r : Bool) (xs ys : List Nat) (w : World) (h : Dg w A c xs) (h' : Dg w B d ys) (hl : xs.length ≤ 900000) (hl' : ys.length ≤ 900000) :
    Calls Tryd.prog 18 #[.agg #[.bool s, .slice A xs.length c], .agg #[.bool r, .slice B ys.length d]] w fun e w' => Zr (sg s (val xs) - sg r (val ys)) w e w' := by
  have l2 := digs_len_le h'.2.1
  have l3 : (digs (-sg r (val ys)).natAbs).length ≤ ys.length := by rw [Int.natAbs_neg, sg_abs]; exact l2
  have TN := Lib.hid (fun W h => rneg_any B d r ys W h (by omega))
  have TA := Lib.hid (fun (A' : Option Addr) (c' : Nat) (W : World) (h1 : Dg W A c xs) (h2 : Dg W A' c' (digs (-sg r (val ys)).natAbs)) => rzadd_any A A' c c' s (decide (-sg r (val ys) < 0)) xs (digs (-sg r (val ys)).natAbs) W h1 h2 (by omega) (by omega))
  rw [sg_dec] at TA
  rw [show sg s (val xs) - sg r (val ys) = sg s (val xs) + -sg r (val ys) by omega]
  generalize -sg r (val ys) = y at *
  generalize sg s (val xs) + y = z at *
  go_enter Tryd.func18, Tryd.ntmps18
  go_wp2
  go_region_held3 (fun w' => (∀ b o, b < w.heap.size + 2 → w'.cell? ⟨b, o, none⟩ = (((w.alloc (.cells #[.bool s, .slice A xs.length c] 24)).alloc (.cells #[.bool r, .slice B ys.length d] 24)).alloc (.cells #[.bool false, .slice none 0 0] 24)).cell? ⟨b, o, none⟩))
    (first | exact fun _ _ _ => rfl | with_reducible exact (bcellB (K1.out.mono (N2 _ _ _ _))).1 | with_reducible exact (bcellB (K2.out.mono (N2 _ _ _ _))).1 | exact (bcellB (((K2.out.mono (N2 _ _ _ _)).setCell (by simp) _).setCell (by simp) _)).1)
    (first
      | (go_at_call 22; ((with_reducible refine (TN.out _ (h'.below (below_drew (below3 _ _ _ _)))).mono ?_); rintro e w1 ⟨A1, c1, rfl, hd, hb⟩; (have K1 := Lib.hid (undrew hb)); (have G1 := Lib.hid hd); clear hb hd))
      | (go_at_call 16; ((with_reducible refine (TA.out _ _ _ (h.below ((below3 _ _ _ _).trans (K1.out.mono (below3 _ _ _ _).size))) G1.out).mono ?_); rintro e w2 ⟨A2, c2, rfl, hd, hb⟩; (have K2 := Lib.hid (K1.out.trans (hb.mono K1.out.size))); (obtain ⟨hc2, hf2⟩ := bcell K2.out); (have HO2 := Lib.hid (off_box (g := w.heap.size + 1 + 1) hd K2.out (by simp) noint2')); (have G2 := Lib.hid hd); clear hb hd)))
  go_wp2
  refine bodyPost_ret (v := .agg #[.bool (decide (z < 0)), .slice A2 (digs z.natAbs).length c2]) (by simp [results, Tryd.results18, go_sem, hc2]) rfl ?_
  exact zr_end _ (by omega) G2.out HO2.out ((below3 w _ _ _).trans (K2.out.mono (by simp; omega))) _ _
theorem sg_mul (s r q : Bool) (x y : Nat) (hq : (s != r) = q) : sg q (x * y) = sg s x * sg r y := by
  subst hq; unfold sg; cases s <;> cases r <;> simp [Int.neg_mul, Int.mul_neg]
set_option maxHeartbeats 4000000 in
set_option maxRecDepth 100000 in
theorem rzmul_any (A B : Option Addr) (c d : Nat) (s r : Bool) (xs ys : List Nat) (w : World) (h : Dg w A c xs) (h' : Dg w B d ys) (hl : xs.length ≤ 400000) (hl' : ys.length ≤ 400000) :
    Calls Tryd.prog 20 #[.agg #[.bool s, .slice A xs.length c], .agg #[.bool r, .slice B ys.length d]] w fun e w' => Zr (sg s (val xs) * sg r (val ys)) w e w' := by
  have l1 := digs_len_le h.2.1
  have l2 := digs_len_le h'.2.1
  have l3 := digs_mul_len (val xs) (val ys)
  obtain ⟨q, hq⟩ : ∃ q, (s != r) = q := ⟨_, rfl⟩
  have hq' : (!s == r) = q := by rw [← hq]; cases s <;> cases r <;> rfl
  have TA := Lib.hid (fun W h h' => rmul_any A B c d xs ys W h h' (by omega) (by omega))
  have TM := Lib.hid (fun A' c' W h => rmake_any A' c' q (digs (val xs * val ys)) W h (by omega))
  rw [val_digs] at TM
  rw [← sg_mul s r q (val xs) (val ys) hq]
  generalize sg q (val xs * val ys) = z at *
  go_enter Tryd.func20, Tryd.ntmps20
  go_wp2
  go_region_held3 (fun w' => (∀ b o, b < w.heap.size + 2 → w'.cell? ⟨b, o, none⟩ = (((w.alloc (.cells #[.bool s, .slice A xs.length c] 24)).alloc (.cells #[.bool r, .slice B ys.length d] 24)).alloc (.cells #[.bool false, .slice none 0 0] 24)).cell? ⟨b, o, none⟩))
    (first | exact fun _ _ _ => rfl | with_reducible exact (bcellB (K1.out.mono (N2 _ _ _ _))).1 | with_reducible exact (bcellB (K2.out.mono (N2 _ _ _ _))).1 | exact (bcellB (((K2.out.mono (N2 _ _ _ _)).setCell (by simp) _).setCell (by simp) _)).1)
    (first
      | (go_at_call 50; ((with_reducible refine (TA.out _ (h.below (below_drew (below3 _ _ _ _))) (h'.below (below_drew (below3 _ _ _ _)))).mono ?_); rintro e w1 ⟨A1, c1, rfl, hd, hb⟩; (have K1 := Lib.hid (undrew hb)); (have G1 := Lib.hid hd); clear hb hd))
      | (go_at_call 26; ((with_reducible refine (TM.out _ _ _ G1.out).mono ?_); rintro e w2 ⟨A2, c2, rfl, hd, hb⟩; (have K2 := Lib.hid (K1.out.trans (hb.mono K1.out.size))); (obtain ⟨hc2, hf2⟩ := bcell K2.out); (have HO2 := Lib.hid (off_box (g := w.heap.size + 1 + 1) hd K2.out (by simp) noint2')); (have G2 := Lib.hid hd); clear hb hd)))
  go_wp2
  refine bodyPost_ret (v := .agg #[.bool (decide (z < 0)), .slice A2 (digs z.natAbs).length c2]) (by simp [results, Tryd.results20, go_sem, hc2]) rfl ?_
  exact zr_end _ (by omega) G2.out HO2.out ((below3 w _ _ _).trans (K2.out.mono (by simp; omega))) _ _
end Go.Proofs.YthgkdpfkaobgoaaDoor
end

section
/-
  astrolaberef04's Div.
-/
namespace Go.Proofs.YthgkdpfkaobgoaaDoor
open Go.RowKit
theorem carry1 {W w' : World} (hb : Below W.heap.size W w') {p1 : Addr} {v1 : Value} (h : W.cell? p1 = some v1) (b1 : p1.block < W.heap.size) : w'.cell? p1 = some v1 := (hb.cell b1).trans h
theorem set1 {w : World} {p1 q : Addr} {v1 v : Value} (h : w.cell? p1 = some v1) (b1 : p1.block ≠ q.block) : (w.setCell q v).cell? p1 = some v1 := (World.cell?_setCell_other _ _ _ _ (fun e => b1 (by rw [e]))).trans h
theorem zr2_zero {w w' : World} {A : Option Addr} {c m : Nat} {t : Bool} {q r : Int} (hq : sg t m = q) (hr : r = 0) (hd : Dg w' A c (digs m)) (hb : Below w.heap.size w w') :
    Zr2 q r w (.returned (.tuple #[.agg #[.bool (t && decide (m ≠ 0)), .slice A (digs m).length c], .agg #[.bool false, .slice none 0 0], .bool true])) w' := by
  subst hr
  have := zr2_give (B := none) (d := 0) (k := 0) (u := false) hq (show sg false 0 = 0 from rfl) hd (by rw [digs_zero]; exact Dg.nil_ _ _) hb
  rw [digs_zero] at this
  exact this
theorem rmake_d (A : Option Addr) (c m : Nat) (t : Bool) (w : World) (h : Dg w A c (digs m)) (hl : (digs m).length ≤ 1000000) :
    Calls Tryd.prog 26 #[.bool t, .slice A (digs m).length c] w fun e w' => ∃ A' c', e = .returned (.agg #[.bool (t && decide (m ≠ 0)), .slice A' (digs m).length c']) ∧ Dg w' A' c' (digs m) ∧ Below w.heap.size w w' := by
  refine (rmake_any A c t (digs m) w h hl).mono ?_
  rintro e w' ⟨A', c', rfl, hd, hb⟩
  rw [val_digs, sg_abs] at *
  rw [← sg_neg]
  exact ⟨A', c', rfl, hd, hb⟩
set_option maxHeartbeats 4000000 in
set_option maxRecDepth 100000 in
theorem rzdiv_no (A B : Option Addr) (c d : Nat) (s r : Bool) (xs ys : List Nat) (w : World) (h : Dg w A c xs) (h' : Dg w B d ys) (hl : xs.length ≤ 100000) (hl' : ys.length ≤ 100000) (hy : val ys = 0) :
    Calls Tryd.prog 34 #[.agg #[.bool s, .slice A xs.length c], .agg #[.bool r, .slice B ys.length d]] w fun e w' => e = .returned (.tuple #[.agg #[.bool false, .slice none 0 0], .agg #[.bool false, .slice none 0 0], .bool false]) ∧ Below w.heap.size w w' := by
  have l1 := digs_len_le h.2.1
  have l2 := digs_len_le h'.2.1
  have HY := Lib.hid hy
  clear hy
  have MA := Lib.hid (fun W h => rmake_any A c s xs W h (by omega))
  have MB := Lib.hid (fun W h => rmake_any B d r ys W h (by omega))
  have a1 := sg_abs s (val xs)
  have a2 := sg_abs r (val ys)
  rw [← a1] at l1
  rw [← a2] at l2
  have HX := Lib.hid a1
  have HYY := Lib.hid a2
  clear a1 a2
  obtain ⟨X, hX⟩ : ∃ X, sg s (val xs) = X := ⟨_, rfl⟩
  obtain ⟨Y, hY⟩ : ∃ Y, sg r (val ys) = Y := ⟨_, rfl⟩
  rw [hX] at MA l1 HX
  rw [hY] at MB l2 HYY
  simp only [Zr] at MA MB
  obtain ⟨p, hp⟩ : ∃ p, decide (X < 0) = p := ⟨_, rfl⟩
  obtain ⟨q, hq⟩ : ∃ q, decide (Y < 0) = q := ⟨_, rfl⟩
  rw [hp] at MA
  rw [hq] at MB
  have EX := Lib.hid (show sg p X.natAbs = X by rw [← hp]; have := sg_dec X; rwa [val_digs] at this)
  have EY := Lib.hid (show sg q Y.natAbs = Y by rw [← hq]; have := sg_dec Y; rwa [val_digs] at this)
  have HXX := Lib.hid (And.intro hX hY)
  clear hp hq hX hY
  go_enter Tryd.func34, Tryd.ntmps34
  go_upto_region 1 with fail
  have HB0 := Lib.hid (below4 w (.cells #[.bool s, .slice A xs.length c] 24) (.cells #[.bool r, .slice B ys.length d] 24) (.cells #[.bool false, .slice none 0 0] 24) (.cells #[.bool false, .slice none 0 0] 24))
  obtain ⟨W, hW⟩ : ∃ W : World, W = ((((w.alloc (.cells #[.bool s, .slice A xs.length c] 24)).alloc (.cells #[.bool r, .slice B ys.length d] 24)).alloc (.cells #[.bool false, .slice none 0 0] 24)).alloc (.cells #[.bool false, .slice none 0 0] 24)) := ⟨_, rfl⟩
  have f1 : W.cell? ⟨w.heap.size, 0, none⟩ = some (.bool s) := by rw [hW]; go_simp
  have f2 : W.cell? ⟨w.heap.size, 1, none⟩ = some (.slice A xs.length c) := by rw [hW]; go_simp
  have f3 : W.cell? ⟨w.heap.size + 1, 0, none⟩ = some (.bool r) := by rw [hW]; go_simp
  have f4 : W.cell? ⟨w.heap.size + 1, 1, none⟩ = some (.slice B ys.length d) := by rw [hW]; go_simp
  have HR0 := Lib.hid (show W.heap[w.heap.size + 1 + 1]? = some (.cells #[.bool false, .slice none 0 0] 24 (0, 0)) by rw [hW]; have := heap_alloc_new ((w.alloc (.cells #[.bool s, .slice A xs.length c] 24)).alloc (.cells #[.bool r, .slice B ys.length d] 24)) (.cells #[.bool false, .slice none 0 0] 24); rw [heap_alloc_old _ _ (by simp)]; simpa using this)
  have HR1 := Lib.hid (show W.heap[w.heap.size + 1 + 1 + 1]? = some (.cells #[.bool false, .slice none 0 0] 24 (0, 0)) by rw [hW]; have := heap_alloc_new (((w.alloc (.cells #[.bool s, .slice A xs.length c] 24)).alloc (.cells #[.bool r, .slice B ys.length d] 24)).alloc (.cells #[.bool false, .slice none 0 0] 24)) (.cells #[.bool false, .slice none 0 0] 24); simpa using this)
  rw [← hW] at HB0
  rw [← hW]
  have H1 := Lib.hid (h.below HB0.out)
  have H2 := Lib.hid (h'.below HB0.out)
  have hsz : W.heap.size = w.heap.size + 4 := by rw [hW]; simp
  have HZ := Lib.hid hsz
  clear hW h h'
  have s1 : w.heap.size + 1 < W.heap.size := by omega
  clear hsz
  go_wp2_with fail
  refine (MA.out _ H1.out).mono ?_
  rintro e w1 ⟨A1, c1, rfl, hd, hb⟩
  have K1 := Lib.hid hb
  have G1 := Lib.hid hd
  have g3 := (hb.cell (p := ⟨w.heap.size + 1, 0, none⟩) s1).trans f3
  have g4 := (hb.cell (p := ⟨w.heap.size + 1, 1, none⟩) s1).trans f4
  have z1 := hb.size
  have s2 : w.heap.size + 1 < w1.heap.size := by omega
  clear hb hd f1 f2 f3 f4
  go_wp2_with fail
  refine (MB.out _ ((H2.out.below K1.out).below (below1 _ _))).mono ?_
  rintro e w2 ⟨A2, c2, rfl, hd, hb⟩
  have K2 := Lib.hid ((below1 _ _).trans (hb.mono (by simp)))
  have RX := Lib.hid (cells_of (heap_alloc_new w1 (.cells #[.bool p, .slice A1 (digs X.natAbs).length c1] 24)) hb)
  have G2 := Lib.hid hd
  have G3 := Lib.hid (G1.out.below K2.out)
  have f1 := cell_of_row w2 _ 1 _ _ _ RX.out
  simp only [List.getElem?_toArray, List.getElem?_cons_zero, List.getElem?_cons_succ] at f1
  have z2 := K2.out.size
  have z3 := heap_lt RX.out
  clear hb hd g3 g4
  go_wp2_with fail
  refine (rdivmod_no A1 A2 c1 c2 (digs X.natAbs) (digs Y.natAbs) _ (G3.out.below (below1 _ _)) (G2.out.below (below1 _ _)) (by omega) (by rw [val_digs, HYY.out]; exact HY.out)).mono ?_
  rintro e w3 ⟨rfl, hb⟩
  have K3 := Lib.hid (K1.out.trans ((K2.out.trans (((below1 _ _).trans (hb.mono (by simp))).mono K2.out.size)).mono K1.out.size))
  clear hb f1
  have q0 := row_cell HR0.out K3.out 0
  have q1 := row_cell HR0.out K3.out 1
  have q2 := row_cell HR1.out K3.out 0
  have q3 := row_cell HR1.out K3.out 1
  have p0 := row_frozen HR0.out K3.out 0
  have p1 := row_frozen HR0.out K3.out 1
  have p2 := row_frozen HR1.out K3.out 0
  have p3 := row_frozen HR1.out K3.out 1
  simp only [List.getElem?_toArray, List.getElem?_cons_zero, List.getElem?_cons_succ] at q0 q1 q2 q3
  go_wp2
  refine bodyPost_ret (v := .tuple #[.agg #[.bool false, .slice none 0 0], .agg #[.bool false, .slice none 0 0], .bool false]) (by simp [results, Tryd.results34, go_sem, q0, q1, q2, q3]) rfl ⟨rfl, ?_⟩
  exact (((((HB0.out.trans (K3.out.mono HB0.out.size)).setCell (by simp; omega) _).setCell (by simp; omega) _).setCell (by simp; omega) _).setCell (by simp; omega) _)
end Go.Proofs.YthgkdpfkaobgoaaDoor
end

section
/-
  astrolaberef04's Div, behind a divisor that is not nought.
-/
namespace Go.Proofs.YthgkdpfkaobgoaaDoor
open Go.RowKit
set_option maxHeartbeats 8000000 in
set_option maxRecDepth 100000 in
theorem rzdiv_any (A B : Option Addr) (c d : Nat) (s r : Bool) (xs ys : List Nat) (w : World) (h : Dg w A c xs) (h' : Dg w B d ys) (hl : xs.length ≤ 100000) (hl' : ys.length ≤ 100000) (hy : val ys ≠ 0) :
    Calls Tryd.prog 34 #[.agg #[.bool s, .slice A xs.length c], .agg #[.bool r, .slice B ys.length d]] w fun e w' => Zr2 (Int.fdiv (sg s (val xs)) (sg r (val ys))) (Int.fmod (sg s (val xs)) (sg r (val ys))) w e w' := by
  have l1 := digs_len_le h.2.1
  have l2 := digs_len_le h'.2.1
  have HY := Lib.hid hy
  clear hy
  have MA := Lib.hid (fun W h => rmake_any A c s xs W h (by omega))
  have MB := Lib.hid (fun W h => rmake_any B d r ys W h (by omega))
  have a1 := sg_abs s (val xs)
  have a2 := sg_abs r (val ys)
  rw [← a1] at l1
  rw [← a2] at l2
  have HX := Lib.hid a1
  have HYY := Lib.hid a2
  clear a1 a2
  obtain ⟨X, hX⟩ : ∃ X, sg s (val xs) = X := ⟨_, rfl⟩
  obtain ⟨Y, hY⟩ : ∃ Y, sg r (val ys) = Y := ⟨_, rfl⟩
  rw [hX] at MA l1 HX
  rw [hY] at MB l2 HYY
  simp only [Zr] at MA MB
  obtain ⟨p, hp⟩ : ∃ p, decide (X < 0) = p := ⟨_, rfl⟩
  obtain ⟨q, hq⟩ : ∃ q, decide (Y < 0) = q := ⟨_, rfl⟩
  rw [hp] at MA
  rw [hq] at MB
  have EX := Lib.hid (show sg p X.natAbs = X by rw [← hp]; have := sg_dec X; rwa [val_digs] at this)
  have EY := Lib.hid (show sg q Y.natAbs = Y by rw [← hq]; have := sg_dec Y; rwa [val_digs] at this)
  have HXX := Lib.hid (And.intro hX hY)
  clear hp hq hX hY
  go_enter Tryd.func34, Tryd.ntmps34
  go_upto_region 1 with fail
  have HB0 := Lib.hid (below4 w (.cells #[.bool s, .slice A xs.length c] 24) (.cells #[.bool r, .slice B ys.length d] 24) (.cells #[.bool false, .slice none 0 0] 24) (.cells #[.bool false, .slice none 0 0] 24))
  obtain ⟨W, hW⟩ : ∃ W : World, W = ((((w.alloc (.cells #[.bool s, .slice A xs.length c] 24)).alloc (.cells #[.bool r, .slice B ys.length d] 24)).alloc (.cells #[.bool false, .slice none 0 0] 24)).alloc (.cells #[.bool false, .slice none 0 0] 24)) := ⟨_, rfl⟩
  have f1 : W.cell? ⟨w.heap.size, 0, none⟩ = some (.bool s) := by rw [hW]; go_simp
  have f2 : W.cell? ⟨w.heap.size, 1, none⟩ = some (.slice A xs.length c) := by rw [hW]; go_simp
  have f3 : W.cell? ⟨w.heap.size + 1, 0, none⟩ = some (.bool r) := by rw [hW]; go_simp
  have f4 : W.cell? ⟨w.heap.size + 1, 1, none⟩ = some (.slice B ys.length d) := by rw [hW]; go_simp
  have HR0 := Lib.hid (show W.heap[w.heap.size + 1 + 1]? = some (.cells #[.bool false, .slice none 0 0] 24 (0, 0)) by rw [hW]; have := heap_alloc_new ((w.alloc (.cells #[.bool s, .slice A xs.length c] 24)).alloc (.cells #[.bool r, .slice B ys.length d] 24)) (.cells #[.bool false, .slice none 0 0] 24); rw [heap_alloc_old _ _ (by simp)]; simpa using this)
  have HR1 := Lib.hid (show W.heap[w.heap.size + 1 + 1 + 1]? = some (.cells #[.bool false, .slice none 0 0] 24 (0, 0)) by rw [hW]; have := heap_alloc_new (((w.alloc (.cells #[.bool s, .slice A xs.length c] 24)).alloc (.cells #[.bool r, .slice B ys.length d] 24)).alloc (.cells #[.bool false, .slice none 0 0] 24)) (.cells #[.bool false, .slice none 0 0] 24); simpa using this)
  rw [← hW] at HB0
  rw [← hW]
  have H1 := Lib.hid (h.below HB0.out)
  have H2 := Lib.hid (h'.below HB0.out)
  have hsz : W.heap.size = w.heap.size + 4 := by rw [hW]; simp
  have HZ := Lib.hid hsz
  clear hW h h'
  have s1 : w.heap.size + 1 < W.heap.size := by omega
  clear hsz
  go_wp2_with fail
  refine (MA.out _ H1.out).mono ?_
  rintro e w1 ⟨A1, c1, rfl, hd, hb⟩
  have K1 := Lib.hid hb
  have G1 := Lib.hid hd
  have g3 := (hb.cell (p := ⟨w.heap.size + 1, 0, none⟩) s1).trans f3
  have g4 := (hb.cell (p := ⟨w.heap.size + 1, 1, none⟩) s1).trans f4
  have z1 := hb.size
  have s2 : w.heap.size + 1 < w1.heap.size := by omega
  clear hb hd f1 f2 f3 f4
  go_wp2_with fail
  refine (MB.out _ ((H2.out.below K1.out).below (below1 _ _))).mono ?_
  rintro e w2 ⟨A2, c2, rfl, hd, hb⟩
  have K2 := Lib.hid ((below1 _ _).trans (hb.mono (by simp)))
  have RX := Lib.hid (cells_of (heap_alloc_new w1 (.cells #[.bool p, .slice A1 (digs X.natAbs).length c1] 24)) hb)
  have G2 := Lib.hid hd
  have G3 := Lib.hid (G1.out.below K2.out)
  have f1 := cell_of_row w2 _ 1 _ _ _ RX.out
  simp only [List.getElem?_toArray, List.getElem?_cons_zero, List.getElem?_cons_succ] at f1
  have z2 := K2.out.size
  have z3 := heap_lt RX.out
  clear hb hd g3 g4
  go_wp2_with fail
  have HYN := Lib.hid (show Y.natAbs ≠ 0 by rw [HYY.out]; exact HY.out)
  have b1 := digs_len_mono _ _ (Nat.div_le_self X.natAbs Y.natAbs)
  have b2 := digs_len_mono _ _ (Nat.le_of_lt (Nat.mod_lt X.natAbs (Nat.pos_of_ne_zero HYN.out)))
  have HC := Lib.hid (fun V h1 h2 => rdivmod_any A1 A2 c1 c2 (digs X.natAbs) (digs Y.natAbs) V h1 h2 (by omega) (by omega) (by rw [val_digs]; exact HYN.out))
  simp only [val_digs] at HC
  refine (HC.out _ (G3.out.below (below1 _ _)) (G2.out.below (below1 _ _))).mono ?_
  rintro e w3 ⟨A3, c3, B3, d3, rfl, hd3, hd4, hb⟩
  have K3 := Lib.hid (K1.out.trans ((K2.out.trans (((below1 _ _).trans (hb.mono (by simp))).mono K2.out.size)).mono K1.out.size))
  have RXY := Lib.hid (And.intro (cells_of (cells_of RX.out (below1 w2 (.cells #[.bool q, .slice A2 (digs Y.natAbs).length c2] 24))) hb) (cells_of (heap_alloc_new w2 (.cells #[.bool q, .slice A2 (digs Y.natAbs).length c2] 24)) hb))
  have D2 := Lib.hid ((G2.out.below (below1 _ _)).below hb)
  have D3 := Lib.hid hd3
  have D4 := Lib.hid hd4
  have x1 := heap_lt RXY.out.1
  have x2 := heap_lt RXY.out.2
  have n1 := Lib.hid (show w1.heap.size ≠ w.heap.size + 1 + 1 ∧ w1.heap.size ≠ w.heap.size + 1 + 1 + 1 ∧ w2.heap.size ≠ w.heap.size + 1 + 1 ∧ w2.heap.size ≠ w.heap.size + 1 + 1 + 1 by have := HZ.out; omega)
  have f2 := cell_of_row w3 _ 0 _ _ _ RXY.out.1
  have f3 := cell_of_row w3 _ 0 _ _ _ RXY.out.2
  have f4 := cell_of_row w3 _ 1 _ _ _ RXY.out.2
  simp only [List.getElem?_toArray, List.getElem?_cons_zero, List.getElem?_cons_succ] at f2 f3 f4
  have HS := Lib.hid f3
  clear hb hd3 hd4 f1 HC RX
  cases ht : (p == q)
  · have hn0 : ¬ (p = q) := by intro e; rw [e] at ht; simp at ht
    have HT := Lib.hid (show (p != q) = true by simp [hn0])
    by_cases hk : X.natAbs % Y.natAbs = 0
    · have HK := Lib.hid hk
      have hn : (((digs (X.natAbs % Y.natAbs)).length : Int) == 0) = true := by rw [hk, digs_zero]; rfl
      clear hk
      go_wp2_with fail
      refine (rmake_d A3 c3 (X.natAbs / Y.natAbs) true _ D3.out (by omega)).mono ?_
      rintro e w4 ⟨A5, c5, rfl, hd, hb⟩
      have KA := Lib.hid (K3.out.trans (hb.mono K3.out.size))
      have G5 := Lib.hid hd
      have q0 := row_cell HR0.out KA.out 0
      have q1 := row_cell HR0.out KA.out 1
      have q2 := row_cell HR1.out KA.out 0
      have q3 := row_cell HR1.out KA.out 1
      have p0 := row_frozen HR0.out KA.out 0
      have p1 := row_frozen HR0.out KA.out 1
      have p2 := row_frozen HR1.out KA.out 0
      have p3 := row_frozen HR1.out KA.out 1
      simp only [List.getElem?_toArray, List.getElem?_cons_zero, List.getElem?_cons_succ] at q0 q1 q2 q3
      have HO := Lib.hid (And.intro (off_row (g := w.heap.size + 1 + 1) hd KA.out HR0.out noint2') (off_row (g := w.heap.size + 1 + 1 + 1) hd KA.out HR1.out noint2'))
      clear hb hd
      go_wp2
      refine bodyPost_ret (v := .tuple #[.agg #[.bool (true && decide ((X.natAbs / Y.natAbs) ≠ 0)), .slice A5 (digs (X.natAbs / Y.natAbs)).length c5], .agg #[.bool false, .slice none 0 0], .bool true]) (by simp [results, Tryd.results34, go_sem, q0, q1, q2, q3]) rfl ?_
      rw [HXX.out.1, HXX.out.2]
      have e0 := fd_exact (x := X.natAbs) (y := Y.natAbs) HT.out HYN.out HK.out
      rw [EX.out, EY.out, HK.out] at e0
      refine zr2_zero e0.1 (by rw [← e0.2]; unfold sg; simp) ((((G5.out.set_off HO.out.1 _ _).set_off HO.out.1 _ _).set_off HO.out.2 _ _).set_off HO.out.2 _ _) ?_
      exact (((((HB0.out.trans (KA.out.mono HB0.out.size)).setCell (by simp; omega) _).setCell (by simp; omega) _).setCell (by simp; omega) _).setCell (by simp; omega) _)
    · have HK := Lib.hid hk
      have hn : (((digs (X.natAbs % Y.natAbs)).length : Int) == 0) = false := len_ne (fun e => hk (digs_nil.1 e))
      clear hk
      go_wp2_with fail
      have HSB := Lib.hid (rsub_yes A2 B3 c2 d3 (digs Y.natAbs) (digs (X.natAbs % Y.natAbs)) w3 D2.out D4.out (by omega) (by omega) (by rw [val_digs, val_digs]; exact Nat.le_of_lt (Nat.mod_lt _ (Nat.pos_of_ne_zero HYN.out))))
      simp only [val_digs] at HSB
      refine HSB.out.mono ?_
      rintro e w4 ⟨A4, c4, rfl, hd, hb⟩
      have K4 := Lib.hid (K3.out.trans (hb.mono K3.out.size))
      have G4 := Lib.hid hd
      have G3b := Lib.hid (D3.out.below hb)
      have HS4 := Lib.hid (carry1 hb HS.out x2)
      have x4 := Nat.lt_of_lt_of_le x2 hb.size
      clear hb hd HSB f2 f3 f4
      go_wp2_with fail
      have d1 := digs_one (a := 1) (by omega) (by omega)
      have b3 := digs_add_len (X.natAbs / Y.natAbs) 1
      have b4 := digs_sub_len Y.natAbs (X.natAbs % Y.natAbs)
      have b5 : (digs 1).length ≤ 1 := by rw [d1]; simp
      have AD := Lib.hid (fun (g : Nat) (V : World) (h1 : Dg V A3 c3 (digs (X.natAbs / Y.natAbs))) (h2 : Dg V (some ⟨g, 0, none⟩) 1 [1]) => radd_any A3 (some ⟨g, 0, none⟩) c3 1 (digs (X.natAbs / Y.natAbs)) (digs 1) V h1 (by rw [d1]; exact h2) (by omega) (by omega))
      simp only [val_digs, d1] at AD
      clear d1
      refine wp_operands (W := w4) rfl 8 [61, 62, 63, 64, 65, 66, 67, 68] (fun i u x => match i with | 0 => u = .slice A3 (digs (X.natAbs / Y.natAbs)).length c3 | 1 => ∃ g : Nat, u = .slice (some ⟨g, 0, none⟩) 1 1 ∧ Dg x (some ⟨g, 0, none⟩) 1 [1] | 2 => ∃ A' c', u = .slice A' (digs (X.natAbs / Y.natAbs + 1)).length c' ∧ Dg x A' c' (digs (X.natAbs / Y.natAbs + 1)) | 3 => ∃ A' c', u = .agg #[.bool (true && decide ((X.natAbs / Y.natAbs + 1) ≠ 0)), .slice A' (digs (X.natAbs / Y.natAbs + 1)).length c'] ∧ Dg x A' c' (digs (X.natAbs / Y.natAbs + 1)) | 4 => u = .pointer (some ⟨w2.heap.size, 0, none⟩) | 5 => u = .bool q | 6 => u = .slice A4 (digs (Y.natAbs - X.natAbs % Y.natAbs)).length c4 | 7 => ∃ A' c', u = .agg #[.bool (q && decide ((Y.natAbs - X.natAbs % Y.natAbs) ≠ 0)), .slice A' (digs (Y.natAbs - X.natAbs % Y.natAbs)).length c'] ∧ Dg x A' c' (digs (Y.natAbs - X.natAbs % Y.natAbs)) | _ => True) (fun _ => false)
        (by decide) rfl (by kernel_rfl) (by kernel_rfl) (by decide) (by kernel_rfl) ?_ (fun _ _ _ h => by cases h) ?_ ?_
      · intro i u x x' hi hR hb
        have hi' : i = 0 ∨ i = 1 ∨ i = 2 ∨ i = 3 ∨ i = 4 ∨ i = 5 ∨ i = 6 ∨ i = 7 := by omega
        rcases hi' with rfl | rfl | rfl | rfl | rfl | rfl | rfl | rfl
        · exact hR
        · obtain ⟨g, e, hd⟩ := hR; exact ⟨g, e, hd.below hb⟩
        · obtain ⟨A', c', e, hd⟩ := hR; exact ⟨A', c', e, hd.below hb⟩
        · obtain ⟨A', c', e, hd⟩ := hR; exact ⟨A', c', e, hd.below hb⟩
        · exact hR
        · exact hR
        · exact hR
        · obtain ⟨A', c', e, hd⟩ := hR; exact ⟨A', c', e, hd.below hb⟩
      · intro i a x K hi hF hb hw hK
        have hi' : i = 0 ∨ i = 1 ∨ i = 2 ∨ i = 3 ∨ i = 4 ∨ i = 5 ∨ i = 6 ∨ i = 7 := by omega
        rcases hi' with rfl | rfl | rfl | rfl | rfl | rfl | rfl | rfl
        · simp only [wpOp, List.getElem?_toArray, List.getElem?_cons_zero, Region.wanted, if_true]
          refine Or.inl ?_
          have e : a.tmps.getD 9 undef = .slice A3 (digs (X.natAbs / Y.natAbs)).length c3 := hF.2.2 9 (by decide)
          clear hw hF
          simp only [Oper.wp, execOp]
          go_simp
          exact hK _ x rfl (Below.refl _ _) (fun h => by cases h)
        · simp only [wpOp, List.getElem?_toArray, List.getElem?_cons_succ, List.getElem?_cons_zero, Region.wanted, if_true]
          refine Or.inl ?_
          clear hw hF
          have HN := Lib.hid (Live.get (A := some ⟨x.heap.size, 0, none⟩) (c := 1) (xs := [1]) ((live_start x).new1 1 1 rfl (by omega)) (by simp))
          simp only [Oper.wp, execOp]
          go_simp
          exact hK _ _ ⟨x.heap.size, rfl, HN.out⟩ (below1 _ _) (fun h => by cases h)
        · simp only [wpOp, List.getElem?_toArray, List.getElem?_cons_succ, List.getElem?_cons_zero, Region.wanted, if_true]
          refine Or.inl ?_
          have e : a.tmps.getD 61 undef = .slice A3 (digs (X.natAbs / Y.natAbs)).length c3 := hw 0 (by kernel_rfl)
          obtain ⟨g, e2, hd2⟩ := hw 1 (by kernel_rfl)
          have e' : a.tmps.getD 62 undef = .slice (some ⟨g, 0, none⟩) 1 1 := e2
          have HD := Lib.hid hd2
          clear hw hF e2 hd2
          simp only [Oper.wp, execOp]
          go_simp
          refine (AD.out g x (G3b.out.below hb) HD.out).mono ?_
          rintro e y ⟨A', c', rfl, hd, hbb⟩
          exact hK _ y ⟨A', c', rfl, hd⟩ hbb (fun h => by cases h)
        · simp only [wpOp, List.getElem?_toArray, List.getElem?_cons_succ, List.getElem?_cons_zero, Region.wanted, if_true]
          refine Or.inl ?_
          obtain ⟨A', c', e2, hd2⟩ := hw 2 (by kernel_rfl)
          have e' : a.tmps.getD 63 undef = .slice A' (digs (X.natAbs / Y.natAbs + 1)).length c' := e2
          have HD := Lib.hid hd2
          clear hw hF e2 hd2
          simp only [Oper.wp, execOp]
          go_simp
          refine (rmake_d A' c' (X.natAbs / Y.natAbs + 1) true x HD.out (by omega)).mono ?_
          rintro e y ⟨A', c', rfl, hd, hbb⟩
          exact hK _ y ⟨A', c', rfl, hd⟩ hbb (fun h => by cases h)
        · simp only [wpOp, List.getElem?_toArray, List.getElem?_cons_succ, List.getElem?_cons_zero, Region.wanted, if_true]
          refine Or.inl ?_
          have e : a.eval (.tmp 8) = .pointer (some ⟨w2.heap.size, 0, none⟩) := hF.2.2 8 (by decide)
          clear hw hF
          simp only [Oper.wp, execOp]
          rw [e]
          go_simp
          exact hK _ x rfl (Below.refl _ _) (fun h => by cases h)
        · simp only [wpOp, List.getElem?_toArray, List.getElem?_cons_succ, List.getElem?_cons_zero, Region.wanted, if_true]
          refine Or.inl ?_
          have e : a.eval (.tmp 65) = .pointer (some ⟨w2.heap.size, 0, none⟩) := hw 4 (by kernel_rfl)
          have f := carry1 hb HS4.out x4
          clear hw hF
          simp only [Oper.wp, execOp]
          rw [e]
          go_simp
          exact hK _ x rfl (Below.refl _ _) (fun h => by cases h)
        · simp only [wpOp, List.getElem?_toArray, List.getElem?_cons_succ, List.getElem?_cons_zero, Region.wanted, if_true]
          refine Or.inl ?_
          have e : a.tmps.getD 12 undef = .slice A4 (digs (Y.natAbs - X.natAbs % Y.natAbs)).length c4 := hF.2.2 12 (by decide)
          clear hw hF
          simp only [Oper.wp, execOp]
          go_simp
          exact hK _ x rfl (Below.refl _ _) (fun h => by cases h)
        · simp only [wpOp, List.getElem?_toArray, List.getElem?_cons_succ, List.getElem?_cons_zero, Region.wanted, if_true]
          refine Or.inl ?_
          have e : a.tmps.getD 66 undef = .bool q := hw 5 (by kernel_rfl)
          have e' : a.tmps.getD 67 undef = .slice A4 (digs (Y.natAbs - X.natAbs % Y.natAbs)).length c4 := hw 6 (by kernel_rfl)
          clear hw hF
          simp only [Oper.wp, execOp]
          go_simp
          refine (rmake_d A4 c4 (Y.natAbs - X.natAbs % Y.natAbs) q x (G4.out.below hb) (by omega)).mono ?_
          rintro e y ⟨A', c', rfl, hd, hbb⟩
          exact hK _ y ⟨A', c', rfl, hd⟩ hbb (fun h => by cases h)
      · intro a x hF hb hR _
        obtain ⟨g, e1, _⟩ := hR 1 (by decide)
        obtain ⟨A7, c7, e2, _⟩ := hR 2 (by decide)
        obtain ⟨A5, c5, e3, hd5⟩ := hR 3 (by decide)
        obtain ⟨A6, c6, e7, hd6⟩ := hR 7 (by decide)
        have t0 : a.tmps.getD 61 undef = .slice A3 (digs (X.natAbs / Y.natAbs)).length c3 := hR 0 (by decide)
        have t1 : a.tmps.getD 62 undef = .slice (some ⟨g, 0, none⟩) 1 1 := e1
        have t2 : a.tmps.getD 63 undef = .slice A7 (digs (X.natAbs / Y.natAbs + 1)).length c7 := e2
        have t3 : a.tmps.getD 64 undef = .agg #[.bool (true && decide ((X.natAbs / Y.natAbs + 1) ≠ 0)), .slice A5 (digs (X.natAbs / Y.natAbs + 1)).length c5] := e3
        have t4 : a.tmps.getD 65 undef = .pointer (some ⟨w2.heap.size, 0, none⟩) := hR 4 (by decide)
        have t5 : a.tmps.getD 66 undef = .bool q := hR 5 (by decide)
        have t6 : a.tmps.getD 67 undef = .slice A4 (digs (Y.natAbs - X.natAbs % Y.natAbs)).length c4 := hR 6 (by decide)
        have t7 : a.tmps.getD 68 undef = .agg #[.bool (q && decide ((Y.natAbs - X.natAbs % Y.natAbs) ≠ 0)), .slice A6 (digs (Y.natAbs - X.natAbs % Y.natAbs)).length c6] := e7
        rw [hF.fold (by kernel_rfl)]
        simp only [List.foldl_cons, List.foldl_nil, t0, t1, t2, t3, t4, t5, t6, t7]
        simp only [Act.put, List.setIfInBounds_toArray, List.set_cons_zero, List.set_cons_succ]
        change wpOps _ _ _ [8, 9, 10] _ _
        have KA := Lib.hid (K4.out.trans (hb.mono K4.out.size))
        have G5' := Lib.hid hd5
        have G6 := Lib.hid hd6
        have q0 := row_cell HR0.out KA.out 0
        have q1 := row_cell HR0.out KA.out 1
        have q2 := row_cell HR1.out KA.out 0
        have q3 := row_cell HR1.out KA.out 1
        have p0 := row_frozen HR0.out KA.out 0
        have p1 := row_frozen HR0.out KA.out 1
        have p2 := row_frozen HR1.out KA.out 0
        have p3 := row_frozen HR1.out KA.out 1
        simp only [List.getElem?_toArray, List.getElem?_cons_zero, List.getElem?_cons_succ] at q0 q1 q2 q3
        have HO := Lib.hid (And.intro (off_row (g := w.heap.size + 1 + 1) G5'.out KA.out HR0.out noint2') (And.intro (off_row (g := w.heap.size + 1 + 1 + 1) G5'.out KA.out HR1.out noint2') (And.intro (off_row (g := w.heap.size + 1 + 1) G6.out KA.out HR0.out noint2') (off_row (g := w.heap.size + 1 + 1 + 1) G6.out KA.out HR1.out noint2'))))
        clear t0 t1 t2 t3 t4 t5 t6 t7 e1 e2 e3 e7 hR hF hb hd5 hd6
        rw [wpOps_cons]
        simp only [wpOp, List.getElem?_toArray, List.getElem?_cons_succ, List.getElem?_cons_zero, Region.wanted, if_true]
        refine Or.inl ?_
        simp only [Oper.wp, execOp]
        go_simp
        rw [wpOps_cons]
        simp only [wpOp, List.getElem?_toArray, List.getElem?_cons_succ, List.getElem?_cons_zero, Region.wanted, if_true]
        refine Or.inl ?_
        simp only [Oper.wp, execOp]
        go_simp
        rw [wpOps_cons]
        simp only [wpOp, List.getElem?_toArray, List.getElem?_cons_succ, List.getElem?_cons_zero, Region.wanted, if_true]
        refine Or.inl ?_
        simp only [Oper.wp, execOp]
        go_simp
        try simp only [wpOps]
        have FD := Lib.hid (fd_more (x := X.natAbs) (y := Y.natAbs) HT.out HYN.out HK.out)
        rw [EX.out, EY.out] at FD
        go_wp2
        refine bodyPost_ret (v := .tuple #[.agg #[.bool (true && decide ((X.natAbs / Y.natAbs + 1) ≠ 0)), .slice A5 (digs (X.natAbs / Y.natAbs + 1)).length c5], .agg #[.bool (q && decide ((Y.natAbs - X.natAbs % Y.natAbs) ≠ 0)), .slice A6 (digs (Y.natAbs - X.natAbs % Y.natAbs)).length c6], .bool true]) (by simp [results, Tryd.results34, go_sem, q0, q1, q2, q3]) rfl ?_
        rw [HXX.out.1, HXX.out.2]
        refine zr2_give FD.out.1 FD.out.2 ((((G5'.out.set_off HO.out.1 _ _).set_off HO.out.1 _ _).set_off HO.out.2.1 _ _).set_off HO.out.2.1 _ _) ((((G6.out.set_off HO.out.2.2.1 _ _).set_off HO.out.2.2.1 _ _).set_off HO.out.2.2.2 _ _).set_off HO.out.2.2.2 _ _) ?_
        exact (((((HB0.out.trans (KA.out.mono HB0.out.size)).setCell (by simp; omega) _).setCell (by simp; omega) _).setCell (by simp; omega) _).setCell (by simp; omega) _)
  · have et : p = q := by simpa using ht
    have FD := Lib.hid (fd_same (t := q) (x := X.natAbs) (y := Y.natAbs))
    rw [show sg q X.natAbs = X by rw [← et]; exact EX.out, EY.out] at FD
    clear et
    go_wp2_with fail
    clear f2 f3 f4
    have KD := Lib.hid (below_drew (Below.refl w3.heap.size w3))
    go_region_held3 (fun w' => w'.cell? ⟨w2.heap.size, 0, none⟩ = some (.bool q))
      (first | with_reducible exact HS.out | with_reducible exact carry1 KD.out HS.out x2 | with_reducible exact carry1 L1.out HS.out x2 | with_reducible exact carry1 L2.out HS.out x2 | with_reducible exact set1 (set1 (carry1 L2.out HS.out x2) n1.out.2.2.1) n1.out.2.2.1 | with_reducible exact set1 (set1 (set1 (set1 (carry1 L2.out HS.out x2) n1.out.2.2.1) n1.out.2.2.1) n1.out.2.2.2) n1.out.2.2.2)
      (first
        | (go_at_call_of 26 A3; (with_reducible refine (rmake_d A3 c3 (X.natAbs / Y.natAbs) false _ (D3.out.below KD.out) (by omega)).mono ?_); rintro e w5 ⟨A5, c5, rfl, hd, hb⟩; (have L1 := Lib.hid (KD.out.trans (hb.mono KD.out.size))); (have G5 := Lib.hid hd); clear hb hd)
        | (go_at_call_of 26 B3; (with_reducible refine (rmake_d B3 d3 (X.natAbs % Y.natAbs) q _ (D4.out.below L1.out) (by omega)).mono ?_); rintro e w6 ⟨A6, c6, rfl, hd, hb⟩; (have L2 := Lib.hid (L1.out.trans (hb.mono L1.out.size))); (have G6 := Lib.hid hd); (have G5' := Lib.hid (G5.out.below hb)); (have KA := Lib.hid (K3.out.trans (L2.out.mono K3.out.size))); (have q0 := row_cell HR0.out KA.out 0); (have q1 := row_cell HR0.out KA.out 1); (have q2 := row_cell HR1.out KA.out 0); (have q3 := row_cell HR1.out KA.out 1); (have p0 := row_frozen HR0.out KA.out 0); (have p1 := row_frozen HR0.out KA.out 1); (have p2 := row_frozen HR1.out KA.out 0); (have p3 := row_frozen HR1.out KA.out 1); (simp only [List.getElem?_toArray, List.getElem?_cons_zero, List.getElem?_cons_succ] at q0 q1 q2 q3); (have HO := Lib.hid (And.intro (off_row (g := w.heap.size + 1 + 1) G5'.out KA.out HR0.out noint2') (And.intro (off_row (g := w.heap.size + 1 + 1 + 1) G5'.out KA.out HR1.out noint2') (And.intro (off_row (g := w.heap.size + 1 + 1) hd KA.out HR0.out noint2') (off_row (g := w.heap.size + 1 + 1 + 1) hd KA.out HR1.out noint2'))))); clear hb hd))
    go_wp2
    refine bodyPost_ret (v := .tuple #[.agg #[.bool (false && decide ((X.natAbs / Y.natAbs) ≠ 0)), .slice A5 (digs (X.natAbs / Y.natAbs)).length c5], .agg #[.bool (q && decide ((X.natAbs % Y.natAbs) ≠ 0)), .slice A6 (digs (X.natAbs % Y.natAbs)).length c6], .bool true]) (by simp [results, Tryd.results34, go_sem, q0, q1, q2, q3]) rfl ?_
    rw [HXX.out.1, HXX.out.2]
    refine zr2_give FD.out.1 FD.out.2 ((((G5'.out.set_off HO.out.1 _ _).set_off HO.out.1 _ _).set_off HO.out.2.1 _ _).set_off HO.out.2.1 _ _) ((((G6.out.set_off HO.out.2.2.1 _ _).set_off HO.out.2.2.1 _ _).set_off HO.out.2.2.2 _ _).set_off HO.out.2.2.2 _ _) ?_
    exact (((((HB0.out.trans (KA.out.mono HB0.out.size)).setCell (by simp; omega) _).setCell (by simp; omega) _).setCell (by simp; omega) _).setCell (by simp; omega) _)
end Go.Proofs.YthgkdpfkaobgoaaDoor
end

section
/-
  zint.Shift.
-/
namespace Go.Proofs.YthgkdpfkaobgoaaDoor
open Go.RowKit
/-- A whole number, and true. -/
def Zb (q : Int) (w : World) (e : Ending) (w' : World) : Prop := ∃ A c, e = .returned (.tuple #[.agg #[.bool (decide (q < 0)), .slice A (digs q.natAbs).length c], .bool true]) ∧ Dg w' A c (digs q.natAbs) ∧ Below w.heap.size w w'
theorem zb_give {w w' : World} {A : Option Addr} {c m : Nat} {t : Bool} {q : Int} (hq : sg t m = q) (hd : Dg w' A c (digs m)) (hb : Below w.heap.size w w') :
    Zb q w (.returned (.tuple #[.agg #[.bool (t && decide (m ≠ 0)), .slice A (digs m).length c], .bool true])) w' := by
  have e1 := sg_neg t m
  have e2 := sg_abs t m
  rw [hq] at e1 e2
  rw [e1]
  subst e2
  exact ⟨A, c, rfl, hd, hb⟩
theorem sg_up (t : Bool) (x k : Nat) : sg t (x * 2 ^ k) = sg t x * 2 ^ k := by
  unfold sg; cases t <;> simp [Int.neg_mul]
theorem sg_dn_pos (x k : Nat) : sg false (x / 2 ^ k) = sg false x / 2 ^ k := by
  unfold sg; simp
theorem sg_dn_whole {x k : Nat} (h : x = x / 2 ^ k * 2 ^ k) : sg true (x / 2 ^ k) = sg true x / 2 ^ k := by
  have hp : (0 : Int) < 2 ^ k := Int.pow_pos (by omega)
  have hne : (2 : Int) ^ k ≠ 0 := by omega
  unfold sg
  simp only [if_true]
  generalize x / 2 ^ k = m at *
  subst h
  have e : -((m * 2 ^ k : Nat) : Int) = (-(m : Int)) * 2 ^ k := by push_cast; rw [Int.neg_mul]
  rw [e, Int.mul_ediv_cancel _ hne]
theorem sg_dn_more {x k : Nat} (h : x ≠ x / 2 ^ k * 2 ^ k) : sg true (x / 2 ^ k + 1) = sg true x / 2 ^ k := by
  have hp : 0 < 2 ^ k := Nat.pow_pos (by omega)
  have h1 := Nat.div_add_mod x (2 ^ k)
  have h2 := Nat.mod_lt x hp
  have e2 : ((2 ^ k : Nat) : Int) = 2 ^ k := by push_cast; rfl
  unfold sg
  simp only [if_true]
  rw [← e2]
  generalize 2 ^ k = P at *
  generalize x / P = m at *
  generalize x % P = r at *
  subst h1
  have hr : r ≠ 0 := by intro e; apply h; rw [e, Nat.mul_comm]; rfl
  have e : -((P * m + r : Nat) : Int) = ((P : Int) - r) + (P : Int) * (-(m : Int) - 1) := by
    push_cast
    have e3 : (P : Int) * (-(m : Int) - 1) = -((P : Int) * m) - P := by
      rw [Int.mul_sub, Int.mul_neg, Int.mul_one]
    rw [e3]; omega
  rw [e, Int.add_mul_ediv_left _ _ (by omega), Int.ediv_eq_zero_of_lt (by omega) (by omega)]
  push_cast; omega
set_option maxHeartbeats 4000000 in
set_option maxRecDepth 100000 in
theorem zshift_no (A : Option Addr) (c : Nat) (s : Bool) (xs : List Nat) (n : Int) (w : World) (hn : n < -100000 ∨ 100000 < n) :
    Calls Tryd.prog 35 #[.agg #[.bool s, .slice A xs.length c], .int .i64 n] w fun e w' => e = .returned (.tuple #[.agg #[.bool false, .slice none 0 0], .bool false]) ∧ Below w.heap.size w w' := by
  by_cases h0 : n < -100000
  · have d0 : decide (n < -100000) = true := by simp [h0]
    go_enter Tryd.func35, Tryd.ntmps35
    go_wp2
    refine bodyPost_ret (v := .tuple #[.agg #[.bool false, .slice none 0 0], .bool false]) (by simp [results, Tryd.results35, go_sem]) rfl ⟨rfl, ?_⟩
    exact below2 w _ _
  · have d0 : decide (n < -100000) = false := by simp; omega
    have d1 : decide (100000 < n) = true := by simp; omega
    go_enter Tryd.func35, Tryd.ntmps35
    go_wp2
    refine bodyPost_ret (v := .tuple #[.agg #[.bool false, .slice none 0 0], .bool false]) (by simp [results, Tryd.results35, go_sem]) rfl ⟨rfl, ?_⟩
    exact below2 w _ _
set_option maxHeartbeats 4000000 in
set_option maxRecDepth 100000 in
theorem zshift_up (A : Option Addr) (c : Nat) (s : Bool) (xs : List Nat) (k : Nat) (w : World) (h : Dg w A c xs) (hl : xs.length ≤ 1000000) (hk : k ≤ 100000) :
    Calls Tryd.prog 35 #[.agg #[.bool s, .slice A xs.length c], .int .i64 (k : Int)] w fun e w' => Zb (sg s (val xs) * 2 ^ k) w e w' := by
  have l1 := digs_len_le h.2.1
  have TA := Lib.hid (fun W h => take_any A c s xs W h (by omega))
  have E1 := Lib.hid (sg_take s (val xs))
  obtain ⟨t1, ht1⟩ : ∃ t, (s && decide (0 < val xs)) = t := ⟨_, rfl⟩
  rw [ht1] at TA E1
  clear ht1
  obtain ⟨Z, hZ⟩ : ∃ Z, sg s (val xs) = Z := ⟨_, rfl⟩
  rw [hZ] at E1
  rw [hZ]
  clear hZ
  obtain ⟨x, hx⟩ : ∃ x, val xs = x := ⟨_, rfl⟩
  rw [hx] at TA E1 l1
  clear hx
  have d0 : decide ((k : Int) < -100000) = false := decide_eq_false (by omega)
  have d1 : decide ((100000 : Int) < (k : Int)) = false := decide_eq_false (by omega)
  have d2 : decide ((0 : Int) ≤ (k : Int)) = true := by simp
  have b1 : (digs (x * 2 ^ k)).length ≤ (digs x).length + 3126 := by have := digs_shl_len x k; omega
  have SH := Lib.hid (fun A1 c1 W h => shl_any A1 c1 (digs x) k W h (by omega) hk)
  simp only [val_digs] at SH
  clear hk
  go_enter Tryd.func35, Tryd.ntmps35
  go_upto_region 3 with fail
  have HB0 := Lib.hid (below2 w (.cells #[.bool s, .slice A xs.length c] 24) (.cells #[.bool false, .slice none 0 0] 24))
  obtain ⟨W, hW⟩ : ∃ W : World, W = (w.alloc (.cells #[.bool s, .slice A xs.length c] 24)).alloc (.cells #[.bool false, .slice none 0 0] 24) := ⟨_, rfl⟩
  have f1 : W.cell? ⟨w.heap.size, 0, none⟩ = some (.bool s) := by rw [hW]; go_simp
  have f2 : W.cell? ⟨w.heap.size, 1, none⟩ = some (.slice A xs.length c) := by rw [hW]; go_simp
  have HR0 := Lib.hid (show W.heap[w.heap.size + 1]? = some (.cells #[.bool false, .slice none 0 0] 24 (0, 0)) by rw [hW]; have := heap_alloc_new (w.alloc (.cells #[.bool s, .slice A xs.length c] 24)) (.cells #[.bool false, .slice none 0 0] 24); simpa using this)
  rw [← hW] at HB0
  rw [← hW]
  have H1 := Lib.hid (h.below HB0.out)
  have hsz : W.heap.size = w.heap.size + 2 := by rw [hW]; simp
  clear hW h
  go_wp2_with fail
  refine (TA.out _ H1.out).mono ?_
  rintro e w1 ⟨A1, c1, rfl, hd, hb⟩
  have K1 := Lib.hid hb
  have G1 := Lib.hid hd
  have z1 := hb.size
  clear hb hd f1 f2 TA
  go_wp2_with fail
  refine (SH.out A1 c1 _ (G1.out.below (below1 _ _))).mono ?_
  rintro e w2 ⟨A2, c2, rfl, hd, hb⟩
  have K2 := Lib.hid (K1.out.trans (((below1 _ _).trans (hb.mono (by simp))).mono K1.out.size))
  have RX := Lib.hid (cells_of (heap_alloc_new w1 (.cells #[.slice A1 (digs x).length c1, .bool t1] 59)) hb)
  have G2 := Lib.hid hd
  have z2 := heap_lt RX.out
  have f1 := cell_of_row w2 _ 1 _ _ _ RX.out
  simp only [List.getElem?_toArray, List.getElem?_cons_zero, List.getElem?_cons_succ] at f1
  clear hb hd SH
  go_wp2_with fail
  refine (give_any A2 c2 (x * 2 ^ k) t1 _ G2.out (by omega)).mono ?_
  rintro e v9 ⟨A9, c9, rfl, hd, hb⟩
  have KA := Lib.hid (K2.out.trans (hb.mono K2.out.size))
  have G9 := Lib.hid hd
  have HO := Lib.hid (off_row (g := w.heap.size + 1) hd KA.out HR0.out noint2')
  have q0 := row_cell HR0.out KA.out 0
  have q1 := row_cell HR0.out KA.out 1
  have p0 := row_frozen HR0.out KA.out 0
  have p1 := row_frozen HR0.out KA.out 1
  simp only [List.getElem?_toArray, List.getElem?_cons_zero, List.getElem?_cons_succ] at q0 q1
  clear hb hd
  go_wp2
  refine bodyPost_ret (v := .tuple #[.agg #[.bool (t1 && decide ((x * 2 ^ k) ≠ 0)), .slice A9 (digs (x * 2 ^ k)).length c9], .bool true]) (by simp [results, Tryd.results35, go_sem, q0, q1]) rfl ?_
  exact zb_give (by rw [sg_up, E1.out]) ((G9.out.set_off HO.out _ _).set_off HO.out _ _) ((((HB0.out.trans (KA.out.mono HB0.out.size)).setCell (by simp <;> omega) _).setCell (by simp <;> omega) _))
end Go.Proofs.YthgkdpfkaobgoaaDoor
end

section
/-
  zint.Shift, downwards.
-/
namespace Go.Proofs.YthgkdpfkaobgoaaDoor
open Go.RowKit
set_option maxHeartbeats 4000000 in
set_option maxRecDepth 100000 in
theorem zshift_down (A : Option Addr) (c : Nat) (s : Bool) (xs : List Nat) (k : Nat) (n : Int) (w : World) (h : Dg w A c xs) (hl : xs.length ≤ 1000000) (h0 : 0 < k) (hk : k ≤ 100000) (hn : n = -(k : Int)) :
    Calls Tryd.prog 35 #[.agg #[.bool s, .slice A xs.length c], .int .i64 n] w fun e w' => Zb (sg s (val xs) / 2 ^ k) w e w' := by
  have l1 := digs_len_le h.2.1
  have TA := Lib.hid (fun W h => take_any A c s xs W h (by omega))
  have E1 := Lib.hid (sg_take s (val xs))
  obtain ⟨t1, ht1⟩ : ∃ t, (s && decide (0 < val xs)) = t := ⟨_, rfl⟩
  rw [ht1] at TA E1
  clear ht1
  obtain ⟨Z, hZ⟩ : ∃ Z, sg s (val xs) = Z := ⟨_, rfl⟩
  rw [hZ] at E1
  rw [hZ]
  clear hZ
  obtain ⟨x, hx⟩ : ∃ x, val xs = x := ⟨_, rfl⟩
  rw [hx] at TA E1 l1
  clear hx
  have d0 : decide (n < -100000) = false := decide_eq_false (by omega)
  have d1 : decide (100000 < n) = false := decide_eq_false (by omega)
  have d2 : decide (0 ≤ n) = false := decide_eq_false (by omega)
  have b1 := digs_len_mono _ _ (Nat.div_le_self x (2 ^ k))
  have b2 : (digs (x / 2 ^ k * 2 ^ k)).length ≤ (digs (x / 2 ^ k)).length + 3126 := by have := digs_shl_len (x / 2 ^ k) k; omega
  have SR := Lib.hid (fun A1 c1 W h => shr_any A1 c1 (digs x) k W h (by omega) (by omega))
  simp only [val_digs] at SR
  have SL := Lib.hid (fun A1 c1 W h => shl_any A1 c1 (digs (x / 2 ^ k)) k W h (by omega) hk)
  simp only [val_digs] at SL
  have HKB := Lib.hid (And.intro h0 hk)
  have nn : -n = (k : Int) := by omega
  have n0 : -100000 ≤ n := by omega
  have n1 : n < 0 := by omega
  clear h0 hk hn
  go_enter Tryd.func35, Tryd.ntmps35
  go_upto_region 3 with fail
  have HB0 := Lib.hid (below2 w (.cells #[.bool s, .slice A xs.length c] 24) (.cells #[.bool false, .slice none 0 0] 24))
  obtain ⟨W, hW⟩ : ∃ W : World, W = (w.alloc (.cells #[.bool s, .slice A xs.length c] 24)).alloc (.cells #[.bool false, .slice none 0 0] 24) := ⟨_, rfl⟩
  have f1 : W.cell? ⟨w.heap.size, 0, none⟩ = some (.bool s) := by rw [hW]; go_simp
  have f2 : W.cell? ⟨w.heap.size, 1, none⟩ = some (.slice A xs.length c) := by rw [hW]; go_simp
  have HR0 := Lib.hid (show W.heap[w.heap.size + 1]? = some (.cells #[.bool false, .slice none 0 0] 24 (0, 0)) by rw [hW]; have := heap_alloc_new (w.alloc (.cells #[.bool s, .slice A xs.length c] 24)) (.cells #[.bool false, .slice none 0 0] 24); simpa using this)
  rw [← hW] at HB0
  rw [← hW]
  have H1 := Lib.hid (h.below HB0.out)
  have hsz : W.heap.size = w.heap.size + 2 := by rw [hW]; simp
  clear hW h
  go_wp2_with fail
  refine (TA.out _ H1.out).mono ?_
  rintro e w1 ⟨A1, c1, rfl, hd, hb⟩
  have K1 := Lib.hid hb
  have G1 := Lib.hid hd
  have z1 := hb.size
  clear hb hd f1 f2 TA
  go_wp2_with fail
  refine (SR.out A1 c1 _ (G1.out.below (below1 _ _))).mono ?_
  rintro e w2 ⟨A2, c2, rfl, hd, hb⟩
  have K2 := Lib.hid (K1.out.trans (((below1 _ _).trans (hb.mono (by simp))).mono K1.out.size))
  have RX := Lib.hid (cells_of (heap_alloc_new w1 (.cells #[.slice A1 (digs x).length c1, .bool t1] 59)) hb)
  have G2 := Lib.hid hd
  have G1b := Lib.hid ((G1.out.below (below1 w1 (.cells #[.slice A1 (digs x).length c1, .bool t1] 59))).below hb)
  have z2 := heap_lt RX.out
  have f1 := cell_of_row w2 _ 1 _ _ _ RX.out
  simp only [List.getElem?_toArray, List.getElem?_cons_zero, List.getElem?_cons_succ] at f1
  clear hb hd SR
  cases t1
  · go_wp2_with fail
    refine (give_any A2 c2 (x / 2 ^ k) false _ (G2.out.below (below1 _ _)) (by omega)).mono ?_
    rintro e v9 ⟨A9, c9, rfl, hd, hb⟩
    have KA := Lib.hid (K2.out.trans (((below1 _ _).trans (hb.mono (by simp))).mono K2.out.size))
    have G9 := Lib.hid hd
    have HO := Lib.hid (off_row (g := w.heap.size + 1) hd KA.out HR0.out noint2')
    have q0 := row_cell HR0.out KA.out 0
    have q1 := row_cell HR0.out KA.out 1
    have p0 := row_frozen HR0.out KA.out 0
    have p1 := row_frozen HR0.out KA.out 1
    simp only [List.getElem?_toArray, List.getElem?_cons_zero, List.getElem?_cons_succ] at q0 q1
    clear hb hd
    go_wp2
    refine bodyPost_ret (v := .tuple #[.agg #[.bool (false && decide ((x / 2 ^ k) ≠ 0)), .slice A9 (digs (x / 2 ^ k)).length c9], .bool true]) (by simp [results, Tryd.results35, go_sem, q0, q1]) rfl ?_
    exact zb_give (by rw [sg_dn_pos, E1.out]) ((G9.out.set_off HO.out _ _).set_off HO.out _ _) ((((HB0.out.trans (KA.out.mono HB0.out.size)).setCell (by simp <;> omega) _).setCell (by simp <;> omega) _))
  · go_wp2_with fail
    refine (SL.out A2 c2 _ (G2.out.below (below1 _ _))).mono ?_
    rintro e w3 ⟨A3, c3, rfl, hd, hb⟩
    have K3 := Lib.hid (K2.out.trans (((below1 _ _).trans (hb.mono (by simp))).mono K2.out.size))
    have RM := Lib.hid (cells_of (heap_alloc_new w2 (.cells #[.slice A2 (digs (x / 2 ^ k)).length c2] 57)) hb)
    have RX3 := Lib.hid (cells_of (cells_of RX.out (below1 w2 (.cells #[.slice A2 (digs (x / 2 ^ k)).length c2] 57))) hb)
    have G3 := Lib.hid hd
    have G1c := Lib.hid ((G1b.out.below (below1 w2 (.cells #[.slice A2 (digs (x / 2 ^ k)).length c2] 57))).below hb)
    have G2c := Lib.hid ((G2.out.below (below1 w2 (.cells #[.slice A2 (digs (x / 2 ^ k)).length c2] 57))).below hb)
    have z3 := heap_lt RM.out
    clear hb hd SL f1
    have f1 := cell_of_row w3 _ 0 _ _ _ RX3.out
    have f2 := cell_of_row w3 _ 1 _ _ _ RX3.out
    have f3 := cell_of_row w3 _ 0 _ _ _ RM.out
    simp only [List.getElem?_toArray, List.getElem?_cons_zero, List.getElem?_cons_succ] at f1 f2 f3
    go_wp2_with fail
    obtain ⟨q3, hq3⟩ : ∃ q3, cmpi x (x / 2 ^ k * 2 ^ k) = q3 := ⟨_, rfl⟩
    have HQ := Lib.hid hq3
    refine (against_any A1 A3 c1 c3 x (x / 2 ^ k * 2 ^ k) q3 _ G1c.out G3.out (by omega) (by omega) hq3).mono ?_
    rintro e w4 ⟨rfl, hb⟩
    have K4 := Lib.hid (K3.out.trans (hb.mono K3.out.size))
    have RM4 := Lib.hid (cells_of RM.out hb)
    have RX4 := Lib.hid (cells_of RX3.out hb)
    have G2d := Lib.hid (G2c.out.below hb)
    have z4 := heap_lt RM4.out
    clear hb hq3 f1 f2 f3
    have f1 := cell_of_row w4 _ 1 _ _ _ RX4.out
    have f2 := cell_of_row w4 _ 0 _ _ _ RM4.out
    simp only [List.getElem?_toArray, List.getElem?_cons_zero, List.getElem?_cons_succ] at f1 f2
    by_cases hw : x = x / 2 ^ k * 2 ^ k
    · have e3 : q3 = 0 := by rw [← HQ.out]; exact cmpi_eq hw
      have HWH := Lib.hid hw
      subst e3
      clear hw
      go_wp2_with fail
      refine (give_any A2 c2 (x / 2 ^ k) true _ G2d.out (by omega)).mono ?_
      rintro e v9 ⟨A9, c9, rfl, hd, hb⟩
      have KA := Lib.hid (K4.out.trans (hb.mono K4.out.size))
      have G9 := Lib.hid hd
      have HO := Lib.hid (off_row (g := w.heap.size + 1) hd KA.out HR0.out noint2')
      have q0 := row_cell HR0.out KA.out 0
      have q1 := row_cell HR0.out KA.out 1
      have p0 := row_frozen HR0.out KA.out 0
      have p1 := row_frozen HR0.out KA.out 1
      simp only [List.getElem?_toArray, List.getElem?_cons_zero, List.getElem?_cons_succ] at q0 q1
      clear hb hd
      go_wp2
      refine bodyPost_ret (v := .tuple #[.agg #[.bool (true && decide ((x / 2 ^ k) ≠ 0)), .slice A9 (digs (x / 2 ^ k)).length c9], .bool true]) (by simp [results, Tryd.results35, go_sem, q0, q1]) rfl ?_
      exact zb_give (by rw [sg_dn_whole HWH.out, E1.out]) ((G9.out.set_off HO.out _ _).set_off HO.out _ _) ((((HB0.out.trans (KA.out.mono HB0.out.size)).setCell (by simp <;> omega) _).setCell (by simp <;> omega) _))
    · have e3 : ((q3 : Int) != 0) = true := by have := cmpi_three x (x / 2 ^ k * 2 ^ k); rw [HQ.out] at this; simp; omega
      have HWH := Lib.hid hw
      clear hw
      have b3 := digs_add_len (x / 2 ^ k) 1
      have b5 : (digs 1).length ≤ 1 := by rw [digs_one (by omega) (by omega)]; simp
      go_wp2_with fail
      refine (more_any A2 c2 (x / 2 ^ k) _ G2d.out (by omega)).mono ?_
      rintro e w5 ⟨A5, c5, rfl, hd, hb⟩
      have K5 := Lib.hid (K4.out.trans (hb.mono K4.out.size))
      have RM5 := Lib.hid (cells_of RM4.out hb)
      have RX5 := Lib.hid (cells_of RX4.out hb)
      have o5 := frozen_of_row w5 _ 0 _ _ RM5.out
      have HOM := Lib.hid (off_row hd hb RM4.out noint1)
      have G5 := Lib.hid hd
      have z5 := heap_lt RM5.out
      clear hb hd f1 f2
      have f1 := cell_of_row w5 _ 1 _ _ _ RX5.out
      have f2 := cell_of_row w5 _ 0 _ _ _ RM5.out
      simp only [List.getElem?_toArray, List.getElem?_cons_zero, List.getElem?_cons_succ] at f1 f2
      have zz : w1.heap.size ≠ w2.heap.size := by omega
      go_wp2_with fail
      refine (give_any A5 c5 (x / 2 ^ k + 1) true _ (G5.out.set_off HOM.out _ _) (by omega)).mono ?_
      rintro e v9 ⟨A9, c9, rfl, hd, hb⟩
      have KA := Lib.hid ((K5.out.setCell (by simp; omega) _).trans (hb.mono (by have := K5.out.size; simp; omega)))
      have G9 := Lib.hid hd
      have HO := Lib.hid (off_row (g := w.heap.size + 1) hd KA.out HR0.out noint2')
      have q0 := row_cell HR0.out KA.out 0
      have q1 := row_cell HR0.out KA.out 1
      have p0 := row_frozen HR0.out KA.out 0
      have p1 := row_frozen HR0.out KA.out 1
      simp only [List.getElem?_toArray, List.getElem?_cons_zero, List.getElem?_cons_succ] at q0 q1
      clear hb hd
      go_wp2
      refine bodyPost_ret (v := .tuple #[.agg #[.bool (true && decide ((x / 2 ^ k + 1) ≠ 0)), .slice A9 (digs (x / 2 ^ k + 1)).length c9], .bool true]) (by simp [results, Tryd.results35, go_sem, q0, q1]) rfl ?_
      exact zb_give (by rw [sg_dn_more HWH.out, E1.out]) ((G9.out.set_off HO.out _ _).set_off HO.out _ _) ((((HB0.out.trans (KA.out.mono HB0.out.size)).setCell (by simp <;> omega) _).setCell (by simp <;> omega) _))
end Go.Proofs.YthgkdpfkaobgoaaDoor
end

section
/-
  astrolaberef04's Shift.
-/
namespace Go.Proofs.YthgkdpfkaobgoaaDoor
open Go.RowKit
set_option maxHeartbeats 4000000 in
set_option maxRecDepth 100000 in
theorem rzshift_no (A : Option Addr) (c : Nat) (s : Bool) (xs : List Nat) (n : Int) (w : World) (hn : n < -100000 ∨ 100000 < n) :
    Calls Tryd.prog 36 #[.agg #[.bool s, .slice A xs.length c], .int .i64 n] w fun e w' => e = .returned (.tuple #[.agg #[.bool false, .slice none 0 0], .bool false]) ∧ Below w.heap.size w w' := by
  by_cases h0 : n < -100000
  · have d0 : decide (n < -100000) = true := by simp [h0]
    go_enter Tryd.func36, Tryd.ntmps36
    go_wp2
    refine bodyPost_ret (v := .tuple #[.agg #[.bool false, .slice none 0 0], .bool false]) (by simp [results, Tryd.results36, go_sem]) rfl ⟨rfl, ?_⟩
    exact below2 w _ _
  · have d0 : decide (n < -100000) = false := by simp; omega
    have d1 : decide (100000 < n) = true := by simp; omega
    go_enter Tryd.func36, Tryd.ntmps36
    go_wp2
    refine bodyPost_ret (v := .tuple #[.agg #[.bool false, .slice none 0 0], .bool false]) (by simp [results, Tryd.results36, go_sem]) rfl ⟨rfl, ?_⟩
    exact below2 w _ _
set_option maxHeartbeats 4000000 in
set_option maxRecDepth 100000 in
theorem rzshift_up (A : Option Addr) (c : Nat) (s : Bool) (xs : List Nat) (k : Nat) (w : World) (h : Dg w A c xs) (hl : xs.length ≤ 100000) (hk : k ≤ 100000) :
    Calls Tryd.prog 36 #[.agg #[.bool s, .slice A xs.length c], .int .i64 (k : Int)] w fun e w' => Zb (sg s (val xs) * 2 ^ k) w e w' := by
  have l1 := digs_len_le h.2.1
  have TA := Lib.hid (fun W h => rmake_any A c s xs W h (by omega))
  have a1 := sg_abs s (val xs)
  rw [← a1] at l1
  clear a1
  obtain ⟨Z, hZ⟩ : ∃ Z, sg s (val xs) = Z := ⟨_, rfl⟩
  rw [hZ] at TA l1
  rw [hZ]
  clear hZ
  simp only [Zr] at TA
  obtain ⟨t1, ht1⟩ : ∃ t, decide (Z < 0) = t := ⟨_, rfl⟩
  rw [ht1] at TA
  have E1 := Lib.hid (show sg t1 Z.natAbs = Z by rw [← ht1]; have := sg_dec Z; rwa [val_digs] at this)
  clear ht1
  obtain ⟨x, hx⟩ : ∃ x, Z.natAbs = x := ⟨_, rfl⟩
  rw [hx] at TA E1 l1
  clear hx
  have d0 : decide ((k : Int) < -100000) = false := decide_eq_false (by omega)
  have d1 : decide ((100000 : Int) < (k : Int)) = false := decide_eq_false (by omega)
  have d2 : decide ((0 : Int) ≤ (k : Int)) = true := by simp
  have b1 : (digs (x * 2 ^ k)).length ≤ (digs x).length + 3126 := by have := digs_shl_len x k; omega
  have SH := Lib.hid (fun A1 c1 W h => rshl_any A1 c1 (digs x) k W h (by omega) hk)
  simp only [val_digs] at SH
  clear hk
  go_enter Tryd.func36, Tryd.ntmps36
  go_upto_region 3 with fail
  have HB0 := Lib.hid (below2 w (.cells #[.bool s, .slice A xs.length c] 24) (.cells #[.bool false, .slice none 0 0] 24))
  obtain ⟨W, hW⟩ : ∃ W : World, W = (w.alloc (.cells #[.bool s, .slice A xs.length c] 24)).alloc (.cells #[.bool false, .slice none 0 0] 24) := ⟨_, rfl⟩
  have f1 : W.cell? ⟨w.heap.size, 0, none⟩ = some (.bool s) := by rw [hW]; go_simp
  have f2 : W.cell? ⟨w.heap.size, 1, none⟩ = some (.slice A xs.length c) := by rw [hW]; go_simp
  have HR0 := Lib.hid (show W.heap[w.heap.size + 1]? = some (.cells #[.bool false, .slice none 0 0] 24 (0, 0)) by rw [hW]; have := heap_alloc_new (w.alloc (.cells #[.bool s, .slice A xs.length c] 24)) (.cells #[.bool false, .slice none 0 0] 24); simpa using this)
  rw [← hW] at HB0
  rw [← hW]
  have H1 := Lib.hid (h.below HB0.out)
  have hsz : W.heap.size = w.heap.size + 2 := by rw [hW]; simp
  clear hW h
  go_wp2_with fail
  refine (TA.out _ H1.out).mono ?_
  rintro e w1 ⟨A1, c1, rfl, hd, hb⟩
  have K1 := Lib.hid hb
  have G1 := Lib.hid hd
  have z1 := hb.size
  clear hb hd f1 f2 TA
  go_wp2_with fail
  refine (SH.out A1 c1 _ (G1.out.below (below1 _ _))).mono ?_
  rintro e w2 ⟨A2, c2, rfl, hd, hb⟩
  have K2 := Lib.hid (K1.out.trans (((below1 _ _).trans (hb.mono (by simp))).mono K1.out.size))
  have RX := Lib.hid (cells_of (heap_alloc_new w1 (.cells #[.bool t1, .slice A1 (digs x).length c1] 24)) hb)
  have G2 := Lib.hid hd
  have z2 := heap_lt RX.out
  have f1 := cell_of_row w2 _ 0 _ _ _ RX.out
  simp only [List.getElem?_toArray, List.getElem?_cons_zero] at f1
  clear hb hd SH
  go_wp2_with fail
  refine (rmake_d A2 c2 (x * 2 ^ k) t1 _ G2.out (by omega)).mono ?_
  rintro e v9 ⟨A9, c9, rfl, hd, hb⟩
  have KA := Lib.hid (K2.out.trans (hb.mono K2.out.size))
  have G9 := Lib.hid hd
  have HO := Lib.hid (off_row (g := w.heap.size + 1) hd KA.out HR0.out noint2')
  have q0 := row_cell HR0.out KA.out 0
  have q1 := row_cell HR0.out KA.out 1
  have p0 := row_frozen HR0.out KA.out 0
  have p1 := row_frozen HR0.out KA.out 1
  simp only [List.getElem?_toArray, List.getElem?_cons_zero, List.getElem?_cons_succ] at q0 q1
  clear hb hd
  go_wp2
  refine bodyPost_ret (v := .tuple #[.agg #[.bool (t1 && decide ((x * 2 ^ k) ≠ 0)), .slice A9 (digs (x * 2 ^ k)).length c9], .bool true]) (by simp [results, Tryd.results36, go_sem, q0, q1]) rfl ?_
  exact zb_give (by rw [sg_up, E1.out]) ((G9.out.set_off HO.out _ _).set_off HO.out _ _) ((((HB0.out.trans (KA.out.mono HB0.out.size)).setCell (by simp <;> omega) _).setCell (by simp <;> omega) _))
set_option maxHeartbeats 4000000 in
set_option maxRecDepth 100000 in
theorem rzshift_down (A : Option Addr) (c : Nat) (s : Bool) (xs : List Nat) (k : Nat) (n : Int) (w : World) (h : Dg w A c xs) (hl : xs.length ≤ 100000) (h0 : 0 < k) (hk : k ≤ 100000) (hn : n = -(k : Int)) :
    Calls Tryd.prog 36 #[.agg #[.bool s, .slice A xs.length c], .int .i64 n] w fun e w' => Zb (sg s (val xs) / 2 ^ k) w e w' := by
  have l1 := digs_len_le h.2.1
  have TA := Lib.hid (fun W h => rmake_any A c s xs W h (by omega))
  have a1 := sg_abs s (val xs)
  rw [← a1] at l1
  clear a1
  obtain ⟨Z, hZ⟩ : ∃ Z, sg s (val xs) = Z := ⟨_, rfl⟩
  rw [hZ] at TA l1
  rw [hZ]
  clear hZ
  simp only [Zr] at TA
  obtain ⟨t1, ht1⟩ : ∃ t, decide (Z < 0) = t := ⟨_, rfl⟩
  rw [ht1] at TA
  have E1 := Lib.hid (show sg t1 Z.natAbs = Z by rw [← ht1]; have := sg_dec Z; rwa [val_digs] at this)
  clear ht1
  obtain ⟨x, hx⟩ : ∃ x, Z.natAbs = x := ⟨_, rfl⟩
  rw [hx] at TA E1 l1
  clear hx
  have d0 : decide (n < -100000) = false := decide_eq_false (by omega)
  have d1 : decide (100000 < n) = false := decide_eq_false (by omega)
  have d2 : decide (0 ≤ n) = false := decide_eq_false (by omega)
  have b1 := digs_len_mono _ _ (Nat.div_le_self x (2 ^ k))
  have b2 : (digs (x / 2 ^ k * 2 ^ k)).length ≤ (digs (x / 2 ^ k)).length + 3126 := by have := digs_shl_len (x / 2 ^ k) k; omega
  have SR := Lib.hid (fun A1 c1 W h => rshr_any A1 c1 (digs x) k W h (by omega) (by omega))
  simp only [val_digs] at SR
  have SL := Lib.hid (fun A1 c1 W h => rshl_any A1 c1 (digs (x / 2 ^ k)) k W h (by omega) hk)
  simp only [val_digs] at SL
  have nn : -n = (k : Int) := by omega
  have n0 : -100000 ≤ n := by omega
  have n1 : n < 0 := by omega
  clear h0 hk hn
  go_enter Tryd.func36, Tryd.ntmps36
  go_upto_region 3 with fail
  have HB0 := Lib.hid (below2 w (.cells #[.bool s, .slice A xs.length c] 24) (.cells #[.bool false, .slice none 0 0] 24))
  obtain ⟨W, hW⟩ : ∃ W : World, W = (w.alloc (.cells #[.bool s, .slice A xs.length c] 24)).alloc (.cells #[.bool false, .slice none 0 0] 24) := ⟨_, rfl⟩
  have f1 : W.cell? ⟨w.heap.size, 0, none⟩ = some (.bool s) := by rw [hW]; go_simp
  have f2 : W.cell? ⟨w.heap.size, 1, none⟩ = some (.slice A xs.length c) := by rw [hW]; go_simp
  have HR0 := Lib.hid (show W.heap[w.heap.size + 1]? = some (.cells #[.bool false, .slice none 0 0] 24 (0, 0)) by rw [hW]; have := heap_alloc_new (w.alloc (.cells #[.bool s, .slice A xs.length c] 24)) (.cells #[.bool false, .slice none 0 0] 24); simpa using this)
  rw [← hW] at HB0
  rw [← hW]
  have H1 := Lib.hid (h.below HB0.out)
  have hsz : W.heap.size = w.heap.size + 2 := by rw [hW]; simp
  clear hW h
  go_wp2_with fail
  refine (TA.out _ H1.out).mono ?_
  rintro e w1 ⟨A1, c1, rfl, hd, hb⟩
  have K1 := Lib.hid hb
  have G1 := Lib.hid hd
  have z1 := hb.size
  clear hb hd f1 f2 TA
  go_wp2_with fail
  refine (SR.out A1 c1 _ (G1.out.below (below1 _ _))).mono ?_
  rintro e w2 ⟨A2, c2, rfl, hd, hb⟩
  have K2 := Lib.hid (K1.out.trans (((below1 _ _).trans (hb.mono (by simp))).mono K1.out.size))
  have RX := Lib.hid (cells_of (heap_alloc_new w1 (.cells #[.bool t1, .slice A1 (digs x).length c1] 24)) hb)
  have G2 := Lib.hid hd
  have G1b := Lib.hid ((G1.out.below (below1 w1 (.cells #[.bool t1, .slice A1 (digs x).length c1] 24))).below hb)
  have z2 := heap_lt RX.out
  clear hb hd SR
  go_wp2_with fail
  refine (SL.out A2 c2 _ G2.out).mono ?_
  rintro e w3 ⟨A3, c3, rfl, hd, hb⟩
  have K3 := Lib.hid (K2.out.trans (hb.mono K2.out.size))
  have RX3 := Lib.hid (cells_of RX.out hb)
  have G3 := Lib.hid hd
  have G1c := Lib.hid (G1b.out.below hb)
  have G2c := Lib.hid (G2.out.below hb)
  have z3 := heap_lt RX3.out
  clear hb hd SL
  have f1 := cell_of_row w3 _ 0 _ _ _ RX3.out
  have f2 := cell_of_row w3 _ 1 _ _ _ RX3.out
  simp only [List.getElem?_toArray, List.getElem?_cons_zero, List.getElem?_cons_succ] at f1 f2
  cases t1
  · go_wp2_with fail
    refine (rmake_d A2 c2 (x / 2 ^ k) false _ G2c.out (by omega)).mono ?_
    rintro e v9 ⟨A9, c9, rfl, hd, hb⟩
    have KA := Lib.hid (K3.out.trans (hb.mono K3.out.size))
    have G9 := Lib.hid hd
    have HO := Lib.hid (off_row (g := w.heap.size + 1) hd KA.out HR0.out noint2')
    have q0 := row_cell HR0.out KA.out 0
    have q1 := row_cell HR0.out KA.out 1
    have p0 := row_frozen HR0.out KA.out 0
    have p1 := row_frozen HR0.out KA.out 1
    simp only [List.getElem?_toArray, List.getElem?_cons_zero, List.getElem?_cons_succ] at q0 q1
    clear hb hd
    go_wp2
    refine bodyPost_ret (v := .tuple #[.agg #[.bool (false && decide ((x / 2 ^ k) ≠ 0)), .slice A9 (digs (x / 2 ^ k)).length c9], .bool true]) (by simp [results, Tryd.results36, go_sem, q0, q1]) rfl ?_
    exact zb_give (by rw [sg_dn_pos, E1.out]) ((G9.out.set_off HO.out _ _).set_off HO.out _ _) ((((HB0.out.trans (KA.out.mono HB0.out.size)).setCell (by simp <;> omega) _).setCell (by simp <;> omega) _))
  · go_wp2_with fail
    obtain ⟨q3, hq3⟩ : ∃ q3, cmpi (x / 2 ^ k * 2 ^ k) x = q3 := ⟨_, rfl⟩
    have HQ := Lib.hid hq3
    have RC := Lib.hid (rcmp_any A3 A1 c3 c1 (digs (x / 2 ^ k * 2 ^ k)) (digs x) w3 G3.out G1c.out (by omega) (by omega))
    simp only [val_digs, hq3] at RC
    clear hq3
    refine RC.out.mono ?_
    rintro e w4 ⟨rfl, rfl⟩
    by_cases hw : x = x / 2 ^ k * 2 ^ k
    · have e3 : q3 = 0 := by rw [← HQ.out]; exact cmpi_eq hw.symm
      have HWH := Lib.hid hw
      subst e3
      clear hw RC
      go_wp2_with fail
      refine (rmake_d A2 c2 (x / 2 ^ k) true _ G2c.out (by omega)).mono ?_
      rintro e v9 ⟨A9, c9, rfl, hd, hb⟩
      have KA := Lib.hid (K3.out.trans (hb.mono K3.out.size))
      have G9 := Lib.hid hd
      have HO := Lib.hid (off_row (g := w.heap.size + 1) hd KA.out HR0.out noint2')
      have q0 := row_cell HR0.out KA.out 0
      have q1 := row_cell HR0.out KA.out 1
      have p0 := row_frozen HR0.out KA.out 0
      have p1 := row_frozen HR0.out KA.out 1
      simp only [List.getElem?_toArray, List.getElem?_cons_zero, List.getElem?_cons_succ] at q0 q1
      clear hb hd
      go_wp2
      refine bodyPost_ret (v := .tuple #[.agg #[.bool (true && decide ((x / 2 ^ k) ≠ 0)), .slice A9 (digs (x / 2 ^ k)).length c9], .bool true]) (by simp [results, Tryd.results36, go_sem, q0, q1]) rfl ?_
      exact zb_give (by rw [sg_dn_whole HWH.out, E1.out]) ((G9.out.set_off HO.out _ _).set_off HO.out _ _) ((((HB0.out.trans (KA.out.mono HB0.out.size)).setCell (by simp <;> omega) _).setCell (by simp <;> omega) _))
    · have e3 : ((q3 : Int) != 0) = true := by have := cmpi_three (x / 2 ^ k * 2 ^ k) x; rw [HQ.out] at this; simp; omega
      have HWH := Lib.hid hw
      clear hw RC
      have dd := digs_one (a := 1) (by omega) (by omega)
      have b3 := digs_add_len (x / 2 ^ k) 1
      have b5 : (digs 1).length ≤ 1 := by rw [dd]; simp
      have AD := Lib.hid (fun (g : Nat) (V : World) (h1 : Dg V A2 c2 (digs (x / 2 ^ k))) (h2 : Dg V (some ⟨g, 0, none⟩) 1 [1]) => radd_any A2 (some ⟨g, 0, none⟩) c2 1 (digs (x / 2 ^ k)) (digs 1) V h1 (by rw [dd]; exact h2) (by omega) (by omega))
      simp only [val_digs, dd] at AD
      clear dd
      go_wp2_with fail
      have HN := Lib.hid (Live.get (A := some ⟨w3.heap.size, 0, none⟩) (c := 1) (xs := [1]) ((live_start w3).new1 1 1 rfl (by omega)) (by simp))
      refine (AD.out w3.heap.size _ (G2c.out.below (below1 _ _)) HN.out).mono ?_
      rintro e w5 ⟨A5, c5, rfl, hd, hb⟩
      have K5 := Lib.hid (K3.out.trans (((below1 _ _).trans (hb.mono (by simp))).mono K3.out.size))
      have RX5 := Lib.hid (cells_of (cells_of RX3.out (below1 w3 (.cells #[.int .u32 1] 75))) hb)
      have G5 := Lib.hid hd
      have z5 := heap_lt RX5.out
      clear hb hd f1 f2 AD
      have f1 := cell_of_row w5 _ 0 _ _ _ RX5.out
      simp only [List.getElem?_toArray, List.getElem?_cons_zero] at f1
      go_wp2_with fail
      refine (rmake_d A5 c5 (x / 2 ^ k + 1) true _ G5.out (by omega)).mono ?_
      rintro e v9 ⟨A9, c9, rfl, hd, hb⟩
      have KA := Lib.hid (K5.out.trans (hb.mono K5.out.size))
      have G9 := Lib.hid hd
      have HO := Lib.hid (off_row (g := w.heap.size + 1) hd KA.out HR0.out noint2')
      have q0 := row_cell HR0.out KA.out 0
      have q1 := row_cell HR0.out KA.out 1
      have p0 := row_frozen HR0.out KA.out 0
      have p1 := row_frozen HR0.out KA.out 1
      simp only [List.getElem?_toArray, List.getElem?_cons_zero, List.getElem?_cons_succ] at q0 q1
      clear hb hd
      go_wp2
      refine bodyPost_ret (v := .tuple #[.agg #[.bool (true && decide ((x / 2 ^ k + 1) ≠ 0)), .slice A9 (digs (x / 2 ^ k + 1)).length c9], .bool true]) (by simp [results, Tryd.results36, go_sem, q0, q1]) rfl ?_
      exact zb_give (by rw [sg_dn_more HWH.out, E1.out]) ((G9.out.set_off HO.out _ _).set_off HO.out _ _) ((((HB0.out.trans (KA.out.mono HB0.out.size)).setCell (by simp <;> omega) _).setCell (by simp <;> omega) _))
end Go.Proofs.YthgkdpfkaobgoaaDoor
end

section
/-
  astrolaberef04's Right, From.
-/
namespace Go.Proofs.YthgkdpfkaobgoaaDoor
open Go.RowKit
set_option maxHeartbeats 1000000 in
set_option maxRecDepth 100000 in
theorem rright_any (A : Option Addr) (c : Nat) (s : Bool) (xs : List Nat) (w : World) (h : Dg w A c xs) (q : Bool) (hq : rightB s xs = q) (hl : xs.length ≤ 9223372036854775807) :
    Calls Tryd.prog 32 #[.agg #[.bool s, .slice A xs.length c]] w fun e w' => e = .returned (.bool q) ∧ Below w.heap.size w w' := by
  by_cases h0 : xs.length = 0
  · have t0 : ((xs.length : Int) == 0) = true := by rw [h0]; rfl
    have t1 : decide (0 < xs.length) = false := by rw [h0]; rfl
    have HQ := Lib.hid (show (!s) = q by rw [← hq]; unfold rightB; rw [if_pos h0])
    clear h h0 hq
    cases s
    all_goals
      go_enter Tryd.func32, Tryd.ntmps32
      go_wp2
      go_ret
      exact ⟨by rw [← HQ.out]; rfl, below1 _ _⟩
  · have t0 : ((xs.length : Int) == 0) = false := beq_eq_false_iff_ne.2 (by omega)
    have t1 : decide (0 < xs.length) = true := by simp; omega
    obtain ⟨b, off, hA, hb, hc⟩ := h.2.2 (by omega)
    have hx := hc (xs.length - 1) (by omega)
    have hp : 0 < xs.length := by omega
    have hq' : decide (xs[xs.length - 1]?.getD 0 ≠ 0) = q := by rw [← hq]; unfold rightB; rw [if_neg h0]
    generalize xs[xs.length - 1]?.getD 0 = x at *
    have hxq : ((x : Int) != 0) = q := by
      rw [← hq', Bool.eq_iff_iff]; simp
    have HX := Lib.hid hxq
    clear h h0 hq hc hq' hxq
    subst hA
    go_enter Tryd.func32, Tryd.ntmps32
    go_wp2
    go_ret
    refine ⟨?_, below1 _ _⟩
    rw [← HX.out]
    rfl
set_option maxHeartbeats 2000000 in
set_option maxRecDepth 100000 in
theorem rzfrom_any (n : Int) (w : World) (h0 : -9223372036854775808 ≤ n) (h1 : n ≤ 9223372036854775807) :
    Calls Tryd.prog 24 #[.int .i64 n] w fun e w' => Zr n w e w' := by
  have lf := digs_small (n := n.natAbs) (by omega)
  by_cases hn : n < 0
  · have d0 : decide (n < 0) = true := by simp [hn]
    have TM := Lib.hid (fun A' c' W h => rmake_any A' c' true (digs n.natAbs) W h (by omega))
    rw [val_digs, show sg true n.natAbs = n by unfold sg; simp; omega] at TM
    go_enter Tryd.func24, Tryd.ntmps24
    go_wp2_with fail
    refine (rfrom_l (i := _) (k := n.natAbs) (live_start _) (by first | omega | (simp only [wrap_u64_eq]; omega)) (by omega)).mono ?_
    rintro e w1 ⟨A1, c1, rfl, hL⟩
    have K1 := Lib.hid hL.1
    have G1 := Lib.hid (hL.get (A := A1) (c := c1) (xs := digs n.natAbs) (by simp))
    clear hL
    go_wp2_with fail
    refine (TM.out A1 c1 _ G1.out).mono ?_
    rintro e w2 ⟨A2, c2, rfl, hd, hb⟩
    have K2 := Lib.hid (K1.out.trans (hb.mono K1.out.size))
    have G2 := Lib.hid hd
    have HO2 := Lib.hid (off_box (g := w.heap.size) hd K2.out rfl noint2')
    obtain ⟨hc2, hf2⟩ := bcell K2.out
    clear hb hd
    go_wp2
    refine bodyPost_ret (v := .agg #[.bool true, .slice A2 (digs n.natAbs).length c2]) (by simp [results, Tryd.results24, go_sem, hc2]) rfl ?_
    exact ⟨A2, c2, by rw [d0], (G2.out.set_off HO2.out _ _).set_off HO2.out _ _, (((below1 w _).trans (K2.out.mono (by simp))).setCell (by simp) _).setCell (by simp) _⟩
  · have d0 : decide (n < 0) = false := by simp; omega
    have TM := Lib.hid (fun A' c' W h => rmake_any A' c' false (digs n.natAbs) W h (by omega))
    rw [val_digs, show sg false n.natAbs = n by unfold sg; simp; omega] at TM
    go_enter Tryd.func24, Tryd.ntmps24
    go_wp2_with fail
    refine (rfrom_l (i := _) (k := n.natAbs) (live_start _) (by first | omega | (simp only [wrap_u64_eq]; omega)) (by omega)).mono ?_
    rintro e w1 ⟨A1, c1, rfl, hL⟩
    have K1 := Lib.hid hL.1
    have G1 := Lib.hid (hL.get (A := A1) (c := c1) (xs := digs n.natAbs) (by simp))
    clear hL
    go_wp2_with fail
    refine (TM.out A1 c1 _ G1.out).mono ?_
    rintro e w2 ⟨A2, c2, rfl, hd, hb⟩
    have K2 := Lib.hid (K1.out.trans (hb.mono K1.out.size))
    have G2 := Lib.hid hd
    have HO2 := Lib.hid (off_box (g := w.heap.size) hd K2.out rfl noint2')
    obtain ⟨hc2, hf2⟩ := bcell K2.out
    clear hb hd
    go_wp2
    refine bodyPost_ret (v := .agg #[.bool false, .slice A2 (digs n.natAbs).length c2]) (by simp [results, Tryd.results24, go_sem, hc2]) rfl ?_
    exact ⟨A2, c2, by rw [d0], (G2.out.set_off HO2.out _ _).set_off HO2.out _ _, (((below1 w _).trans (K2.out.mono (by simp))).setCell (by simp) _).setCell (by simp) _⟩
end Go.Proofs.YthgkdpfkaobgoaaDoor
end

section
/-
  astrolaberef04's Bytes.
-/
namespace Go.Proofs.YthgkdpfkaobgoaaDoor
open Go.RowKit
set_option maxHeartbeats 2000000 in
set_option maxRecDepth 100000 in
theorem rzbytes_no (A : Option Addr) (c : Nat) (s : Bool) (xs : List Nat) (w : World) (h : Dg w A c xs) (hl : xs.length ≤ 9223372036854775807) (hno : rightB s xs = false ∨ 400 < xs.length) :
    Calls Tryd.prog 38 #[.agg #[.bool s, .slice A xs.length c]] w fun e w' => e = .returned (.tuple #[.string ⟨#[]⟩, .bool false]) ∧ Below w.heap.size w w' := by
  have RA := Lib.hid (fun W h q hq => rright_any A c s xs W h q hq hl)
  cases hr : rightB s xs
  · have HR := Lib.hid hr
    clear hno hr
    go_enter Tryd.func38, Tryd.ntmps38
    go_wp2_with fail
    refine (RA.out _ (h.below (below1 _ _)) false HR.out).mono ?_
    rintro e w1 ⟨rfl, hb⟩
    have K1 := Lib.hid ((below1 w _).trans (hb.mono (by simp)))
    clear hb
    go_wp2
    go_ret2
    exact ⟨rfl, K1.out⟩
  · have HR := Lib.hid hr
    have h4 : 400 < xs.length := hno.resolve_left (by rw [hr]; simp)
    have d4 : decide ((400 : Int) < (xs.length : Int)) = true := by simp; omega
    clear hno hr h4
    go_enter Tryd.func38, Tryd.ntmps38
    go_wp2_with fail
    refine (RA.out _ (h.below (below1 _ _)) true HR.out).mono ?_
    rintro e w1 ⟨rfl, hb⟩
    have K1 := Lib.hid ((below1 w _).trans (hb.mono (by simp)))
    obtain ⟨hc, hf⟩ := bcell hb
    clear hb
    go_wp2
    go_ret2
    exact ⟨rfl, K1.out⟩
set_option maxHeartbeats 2000000 in
set_option maxRecDepth 100000 in
theorem rzbytes_any (A : Option Addr) (c : Nat) (s : Bool) (xs : List Nat) (w : World) (h : Dg w A c xs) (hl : xs.length ≤ 400) (hr : rightB s xs = true) :
    Calls Tryd.prog 38 #[.agg #[.bool s, .slice A xs.length c]] w fun e w' => e = .returned (.tuple #[.string ⟨(zbytes s xs).toArray⟩, .bool true]) ∧ Below w.heap.size w w' := by
  have RA := Lib.hid (fun W h => rright_any A c s xs W h true hr (by omega))
  obtain ⟨i0, hi, hz0, hz1, hz2⟩ := info_parts elem8_info
  have d4 : decide ((400 : Int) < (xs.length : Int)) = false := by simp; omega
  clear hr
  have HD := Lib.hid h
  clear h
  obtain ⟨H, hH⟩ : ∃ H : Int, ((headN s xs.length : Nat) : Int) = H := ⟨_, rfl⟩
  have HH := Lib.hid hH
  have hH2 : H = 2 * (xs.length : Int) + (if s then 1 else 0) := by rw [← hH]; unfold headN; cases s <;> simp
  clear hH
  cases s
  · have hH3 : 2 * (xs.length : Int) = H := by simpa using hH2.symm
    have hHb : 0 ≤ H ∧ H ≤ 801 := by omega
    obtain ⟨hHb0, hHb1⟩ := hHb
    have HEQ := Lib.hid hH3
    clear hH2 hH3
    go_enter Tryd.func38, Tryd.ntmps38
    go_wp2_with fail
    refine (RA.out _ (HD.out.below (below1 _ _))).mono ?_
    rintro e w1 ⟨rfl, hb⟩
    have K1 := Lib.hid (show Below (w.heap.size + 1) (w.alloc (.cells #[.bool false, .slice A xs.length c] 24)) w1 by simpa using hb)
    obtain ⟨hc, hf⟩ := bcellB K1.out
    have hsz : w.heap.size + 1 ≤ w1.heap.size := by have := K1.out.size; simpa using this
    clear hb
    go_upto_region 7 with fail
    rw [HEQ.out]
    go_wp2_with fail
    have HW := Lib.hid (show (w1.alloc (.cells #[.int .u8 (H / 256), .int .u8 (H % 256)] 5)).ownsRow (w.heap.size + 1) 5 1 (.slice (some ⟨w1.heap.size, 0, none⟩) 2 2) 2 (Lib.byteCells [UInt8.ofNat (headN false xs.length / 256), UInt8.ofNat (headN false xs.length)]) by
      rw [head_cells HH.out hHb1]
      exact World.ownsRow_lit w1 #[.int .u8 (H / 256), .int .u8 (H % 256)] 2 hsz (by unfold maxLen; omega) rfl)
    have KW := Lib.hid (K1.out.alloc hsz (.cells #[.int .u8 (H / 256), .int .u8 (H % 256)] 5))
    clear hc hf
    generalize w1.alloc (.cells #[.int .u8 (H / 256), .int .u8 (H % 256)] 5) = w2 at *
    go_loopw [6, 7] (fun v i wr => ∃ k : Nat, k ≤ xs.length ∧ i = .int .i64 k ∧ Hid (wr.ownsRow (w.heap.size + 1) 5 1 v (2 + 4 * k) (Lib.byteCells ([UInt8.ofNat (headN false xs.length / 256), UInt8.ofNat (headN false xs.length)] ++ lay4 (xs.take k)))) ∧ Hid (Below (w.heap.size + 1) (w.alloc (.cells #[.bool false, .slice A xs.length c] 24)) wr)) (fun _ i _ => xs.length - (intOf i).toNat)
    case atStart => exact ⟨0, Nat.zero_le _, rfl, Lib.hid (by simpa [lay4] using HW.out), KW⟩
    case round =>
      obtain ⟨k, hk, rfl, ho, hb⟩ := hrel
      obtain ⟨hc, hf⟩ := bcellB hb.out
      have hsz2 : w.heap.size + 1 ≤ wr.heap.size := by have := hb.out.size; simpa using this
      by_cases hlt : k < xs.length
      · obtain ⟨b, off, hD, hbl, hcell⟩ := HD.out.2.2 (by omega)
        have hcx := ((below1 w (.cells #[.bool false, .slice A xs.length c] 24)).trans (hb.out.mono (by omega))).cell (p := ⟨b, off + k, none⟩) hbl |>.trans (hcell k hlt)
        have hx := getD_lt HD.out.2.1 k
        have HX := Lib.hid hx
        generalize hxk : xs[k]?.getD 0 = x at *
        have HXK := Lib.hid hxk
        clear hcell hxk hx
        generalize hX : ((x : Nat) : Int) = X at *
        have i0' : 0 ≤ X := by omega
        have i1' : X < 4294967296 := by have := HX.out; omega
        have HXX := Lib.hid hX
        clear hX
        have hkc : k ≤ c := by have := HD.out.1; omega
        subst hD
        go_wp2_with (at_builtin; refine wpList_append_own _ rfl _ _ 81 rfl (w.heap.size + 1) 5 i0 (.int .u8 0) 1 1 Tryd.underlying81 hi hz0 hz1 hz2 rfl (by decide) _ _ _ rfl (ho.out.alloc _) ⟨wr.heap.size, 0, none⟩ 4 4 [.int .u8 (X % 256), .int .u8 (X / 256 % 256), .int .u8 (X / 65536 % 256), .int .u8 (X / 16777216)] rfl rfl (fun j u hj => four_new hj) (by intro u hu; simp at hu; rcases hu with rfl | rfl | rfl | rfl <;> rfl) (by unfold maxLen; omega) (by omega) (by simp; omega) ?_)
        intro v' w4 hown1 hgrow _
        have HN := Lib.hid hown1
        have HB1 := Lib.hid ((hb.out.alloc hsz2 _).grown hgrow (by simp; omega) (fun k hk => (ho.out.lt k hk).1))
        clear hown1 hgrow hc hf
        go_wp2
        go_roundw
        case rel =>
          refine ⟨k + 1, by omega, by go_num, Lib.hid ?_, HB1⟩
          rw [lay4_take hlt, HXK.out, ← List.append_assoc, byteCells_add, d4_cells HXX.out HX.out]
          exact HN.out
        case measure => simp [intOf]; omega
      · have hkl : k = xs.length := by omega
        subst hkl
        have e : xs.take xs.length = xs := List.take_length
        rw [e] at ho
        have hcv := own_string ho.out (by simp [lay4_len]; omega) (by omega)
        have KZ := Lib.hid hb.out
        clear ho hb e
        go_wp2
        go_ret2
        exact ⟨rfl, (below1 w _).trans (KZ.out.mono (by omega))⟩
  · have hH3 : 2 * (xs.length : Int) + 1 = H := by simpa using hH2.symm
    have hHb : 0 ≤ H ∧ H ≤ 801 := by omega
    obtain ⟨hHb0, hHb1⟩ := hHb
    have HEQ := Lib.hid hH3
    clear hH2 hH3
    go_enter Tryd.func38, Tryd.ntmps38
    go_wp2_with fail
    refine (RA.out _ (HD.out.below (below1 _ _))).mono ?_
    rintro e w1 ⟨rfl, hb⟩
    have K1 := Lib.hid (show Below (w.heap.size + 1) (w.alloc (.cells #[.bool true, .slice A xs.length c] 24)) w1 by simpa using hb)
    obtain ⟨hc, hf⟩ := bcellB K1.out
    have hsz : w.heap.size + 1 ≤ w1.heap.size := by have := K1.out.size; simpa using this
    clear hb
    go_upto_region 7 with fail
    rw [HEQ.out]
    go_wp2_with fail
    have HW := Lib.hid (show (w1.alloc (.cells #[.int .u8 (H / 256), .int .u8 (H % 256)] 5)).ownsRow (w.heap.size + 1) 5 1 (.slice (some ⟨w1.heap.size, 0, none⟩) 2 2) 2 (Lib.byteCells [UInt8.ofNat (headN true xs.length / 256), UInt8.ofNat (headN true xs.length)]) by
      rw [head_cells HH.out hHb1]
      exact World.ownsRow_lit w1 #[.int .u8 (H / 256), .int .u8 (H % 256)] 2 hsz (by unfold maxLen; omega) rfl)
    have KW := Lib.hid (K1.out.alloc hsz (.cells #[.int .u8 (H / 256), .int .u8 (H % 256)] 5))
    clear hc hf
    generalize w1.alloc (.cells #[.int .u8 (H / 256), .int .u8 (H % 256)] 5) = w2 at *
    go_loopw [6, 7] (fun v i wr => ∃ k : Nat, k ≤ xs.length ∧ i = .int .i64 k ∧ Hid (wr.ownsRow (w.heap.size + 1) 5 1 v (2 + 4 * k) (Lib.byteCells ([UInt8.ofNat (headN true xs.length / 256), UInt8.ofNat (headN true xs.length)] ++ lay4 (xs.take k)))) ∧ Hid (Below (w.heap.size + 1) (w.alloc (.cells #[.bool true, .slice A xs.length c] 24)) wr)) (fun _ i _ => xs.length - (intOf i).toNat)
    case atStart => exact ⟨0, Nat.zero_le _, rfl, Lib.hid (by simpa [lay4] using HW.out), KW⟩
    case round =>
      obtain ⟨k, hk, rfl, ho, hb⟩ := hrel
      obtain ⟨hc, hf⟩ := bcellB hb.out
      have hsz2 : w.heap.size + 1 ≤ wr.heap.size := by have := hb.out.size; simpa using this
      by_cases hlt : k < xs.length
      · obtain ⟨b, off, hD, hbl, hcell⟩ := HD.out.2.2 (by omega)
        have hcx := ((below1 w (.cells #[.bool true, .slice A xs.length c] 24)).trans (hb.out.mono (by omega))).cell (p := ⟨b, off + k, none⟩) hbl |>.trans (hcell k hlt)
        have hx := getD_lt HD.out.2.1 k
        have HX := Lib.hid hx
        generalize hxk : xs[k]?.getD 0 = x at *
        have HXK := Lib.hid hxk
        clear hcell hxk hx
        generalize hX : ((x : Nat) : Int) = X at *
        have i0' : 0 ≤ X := by omega
        have i1' : X < 4294967296 := by have := HX.out; omega
        have HXX := Lib.hid hX
        clear hX
        have hkc : k ≤ c := by have := HD.out.1; omega
        subst hD
        go_wp2_with (at_builtin; refine wpList_append_own _ rfl _ _ 81 rfl (w.heap.size + 1) 5 i0 (.int .u8 0) 1 1 Tryd.underlying81 hi hz0 hz1 hz2 rfl (by decide) _ _ _ rfl (ho.out.alloc _) ⟨wr.heap.size, 0, none⟩ 4 4 [.int .u8 (X % 256), .int .u8 (X / 256 % 256), .int .u8 (X / 65536 % 256), .int .u8 (X / 16777216)] rfl rfl (fun j u hj => four_new hj) (by intro u hu; simp at hu; rcases hu with rfl | rfl | rfl | rfl <;> rfl) (by unfold maxLen; omega) (by omega) (by simp; omega) ?_)
        intro v' w4 hown1 hgrow _
        have HN := Lib.hid hown1
        have HB1 := Lib.hid ((hb.out.alloc hsz2 _).grown hgrow (by simp; omega) (fun k hk => (ho.out.lt k hk).1))
        clear hown1 hgrow hc hf
        go_wp2
        go_roundw
        case rel =>
          refine ⟨k + 1, by omega, by go_num, Lib.hid ?_, HB1⟩
          rw [lay4_take hlt, HXK.out, ← List.append_assoc, byteCells_add, d4_cells HXX.out HX.out]
          exact HN.out
        case measure => simp [intOf]; omega
      · have hkl : k = xs.length := by omega
        subst hkl
        have e : xs.take xs.length = xs := List.take_length
        rw [e] at ho
        have hcv := own_string ho.out (by simp [lay4_len]; omega) (by omega)
        have KZ := Lib.hid hb.out
        clear ho hb e
        go_wp2
        go_ret2
        exact ⟨rfl, (below1 w _).trans (KZ.out.mono (by omega))⟩
end Go.Proofs.YthgkdpfkaobgoaaDoor
end

section
/-
  What a law's walk calls, by whole numbers: each contract at numbers that are told by a sign and digits.
-/
namespace Go.Proofs.YthgkdpfkaobgoaaDoor
open Go.RowKit
theorem zlen_add (x y : Int) : (digs (x + y).natAbs).length ≤ max (digs x.natAbs).length (digs y.natAbs).length + 1 :=
  Nat.le_trans (digs_len_mono _ _ (by omega : (x + y).natAbs ≤ x.natAbs + y.natAbs)) (digs_add_len _ _)
theorem zlen_sub (x y : Int) : (digs (x - y).natAbs).length ≤ max (digs x.natAbs).length (digs y.natAbs).length + 1 :=
  Nat.le_trans (digs_len_mono _ _ (by omega : (x - y).natAbs ≤ x.natAbs + y.natAbs)) (digs_add_len _ _)
theorem zlen_mul (x y : Int) : (digs (x * y).natAbs).length ≤ (digs x.natAbs).length + (digs y.natAbs).length := by
  rw [Int.natAbs_mul]; exact digs_mul_len _ _
theorem zlen_neg (x : Int) : (digs (-x).natAbs).length = (digs x.natAbs).length := by rw [Int.natAbs_neg]
theorem zlen_raw {s : Bool} {xs : List Nat} {x : Int} (hk : ok32 xs) (h : sg s (val xs) = x) : (digs x.natAbs).length ≤ xs.length := by
  rw [← h, sg_abs]; exact digs_len_le hk
theorem sg_z (z : Int) : sg (decide (z < 0)) (val (digs z.natAbs)) = z := sg_dec z
section
variable {A B : Option Addr} {c d n m : Nat} {s r : Bool} {xs ys : List Nat} {x y : Int} {w : World}
theorem zadd_z (h : Dg w A c xs) (h' : Dg w B d ys) (hx : sg s (val xs) = x) (hy : sg r (val ys) = y) (hl : xs.length ≤ 1000000) (hl' : ys.length ≤ 1000000) :
    Calls Tryd.prog 15 #[.agg #[.bool s, .slice A xs.length c], .agg #[.bool r, .slice B ys.length d]] w fun e w' => Zr (x + y) w e w' := by
  subst hx hy; exact zadd_any A B c d s r xs ys w h h' hl hl'
theorem rzadd_z (h : Dg w A c xs) (h' : Dg w B d ys) (hx : sg s (val xs) = x) (hy : sg r (val ys) = y) (hl : xs.length ≤ 900000) (hl' : ys.length ≤ 900000) :
    Calls Tryd.prog 16 #[.agg #[.bool s, .slice A xs.length c], .agg #[.bool r, .slice B ys.length d]] w fun e w' => Zr (x + y) w e w' := by
  subst hx hy; exact rzadd_any A B c d s r xs ys w h h' hl hl'
theorem zsub_z (h : Dg w A c xs) (h' : Dg w B d ys) (hx : sg s (val xs) = x) (hy : sg r (val ys) = y) (hl : xs.length ≤ 1000000) (hl' : ys.length ≤ 1000000) :
    Calls Tryd.prog 17 #[.agg #[.bool s, .slice A xs.length c], .agg #[.bool r, .slice B ys.length d]] w fun e w' => Zr (x - y) w e w' := by
  subst hx hy; exact zsub_any A B c d s r xs ys w h h' hl hl'
theorem rzsub_z (h : Dg w A c xs) (h' : Dg w B d ys) (hx : sg s (val xs) = x) (hy : sg r (val ys) = y) (hl : xs.length ≤ 900000) (hl' : ys.length ≤ 900000) :
    Calls Tryd.prog 18 #[.agg #[.bool s, .slice A xs.length c], .agg #[.bool r, .slice B ys.length d]] w fun e w' => Zr (x - y) w e w' := by
  subst hx hy; exact rzsub_any A B c d s r xs ys w h h' hl hl'
theorem zmul_z (h : Dg w A c xs) (h' : Dg w B d ys) (hx : sg s (val xs) = x) (hy : sg r (val ys) = y) (hl : xs.length ≤ 500000) (hl' : ys.length ≤ 500000) :
    Calls Tryd.prog 19 #[.agg #[.bool s, .slice A xs.length c], .agg #[.bool r, .slice B ys.length d]] w fun e w' => Zr (x * y) w e w' := by
  subst hx hy; exact zmul_any A B c d s r xs ys w h h' hl hl'
theorem rzmul_z (h : Dg w A c xs) (h' : Dg w B d ys) (hx : sg s (val xs) = x) (hy : sg r (val ys) = y) (hl : xs.length ≤ 400000) (hl' : ys.length ≤ 400000) :
    Calls Tryd.prog 20 #[.agg #[.bool s, .slice A xs.length c], .agg #[.bool r, .slice B ys.length d]] w fun e w' => Zr (x * y) w e w' := by
  subst hx hy; exact rzmul_any A B c d s r xs ys w h h' hl hl'
theorem zneg_z (h : Dg w A c xs) (hx : sg s (val xs) = x) (hl : xs.length ≤ 1000000) :
    Calls Tryd.prog 21 #[.agg #[.bool s, .slice A xs.length c]] w fun e w' => Zr (-x) w e w' := by
  subst hx; exact zneg_any A c s xs w h hl
theorem rzneg_z (h : Dg w A c xs) (hx : sg s (val xs) = x) (hl : xs.length ≤ 1000000) :
    Calls Tryd.prog 22 #[.agg #[.bool s, .slice A xs.length c]] w fun e w' => Zr (-x) w e w' := by
  subst hx; exact rneg_any A c s xs w h hl
theorem zmake_z (h : Dg w A c xs) (hx : sg s (val xs) = x) (hl : xs.length ≤ 1000000) :
    Calls Tryd.prog 25 #[.bool s, .slice A xs.length c] w fun e w' => Zr x w e w' := by
  subst hx; exact zmake_any A c s xs w h hl
theorem rzmake_z (h : Dg w A c xs) (hx : sg s (val xs) = x) (hl : xs.length ≤ 1000000) :
    Calls Tryd.prog 26 #[.bool s, .slice A xs.length c] w fun e w' => Zr x w e w' := by
  subst hx; exact rmake_any A c s xs w h hl
theorem zfrom_z {i : Int} (hx : i = x) (h0 : -9223372036854775808 ≤ x) (h1 : x ≤ 9223372036854775807) :
    Calls Tryd.prog 23 #[.int .i64 i] w fun e w' => Zr x w e w' := by
  subst hx; exact zfrom_any i w h0 h1
theorem rzfrom_z {i : Int} (hx : i = x) (h0 : -9223372036854775808 ≤ x) (h1 : x ≤ 9223372036854775807) :
    Calls Tryd.prog 24 #[.int .i64 i] w fun e w' => Zr x w e w' := by
  subst hx; exact rzfrom_any i w h0 h1
theorem zcmp_z {q : Int} (h : Dg w A c xs) (h' : Dg w B d ys) (hx : sg s (val xs) = x) (hy : sg r (val ys) = y) (hl : xs.length ≤ 1000000) (hl' : ys.length ≤ 1000000) (hq : Int.sign (x - y) = q) :
    Calls Tryd.prog 29 #[.agg #[.bool s, .slice A xs.length c], .agg #[.bool r, .slice B ys.length d]] w fun e w' => e = .returned (.int .i64 q) ∧ Below w.heap.size w w' := by
  subst hq hx hy; exact zcmp_any A B c d s r xs ys w h h' hl hl'
theorem rzcmp_z {q : Int} (h : Dg w A c xs) (h' : Dg w B d ys) (hx : sg s (val xs) = x) (hy : sg r (val ys) = y) (hl : xs.length ≤ 1000000) (hl' : ys.length ≤ 1000000) (hq : Int.sign (x - y) = q) :
    Calls Tryd.prog 30 #[.agg #[.bool s, .slice A xs.length c], .agg #[.bool r, .slice B ys.length d]] w fun e w' => e = .returned (.int .i64 q) ∧ Below w.heap.size w w' := by
  subst hq hx hy; exact rzcmp_any A B c d s r xs ys w h h' hl hl'
theorem zdiv_z {u v : Int} (h : Dg w A c xs) (h' : Dg w B d ys) (hx : sg s (val xs) = x) (hy : sg r (val ys) = y) (hl : xs.length ≤ 500000) (hl' : ys.length ≤ 500000) (y0 : y ≠ 0) (hu : Int.fdiv x y = u) (hv : Int.fmod x y = v) :
    Calls Tryd.prog 33 #[.agg #[.bool s, .slice A xs.length c], .agg #[.bool r, .slice B ys.length d]] w fun e w' => Zr2 u v w e w' := by
  subst hu hv hx hy; exact zdiv_any A B c d s r xs ys w h h' hl hl' (fun e => y0 (by rw [e]; unfold sg; cases r <;> rfl))
theorem zdiv_z_no (h : Dg w A c xs) (h' : Dg w B d ys) (hy : sg r (val ys) = 0) (hl : xs.length ≤ 500000) (hl' : ys.length ≤ 500000) :
    Calls Tryd.prog 33 #[.agg #[.bool s, .slice A xs.length c], .agg #[.bool r, .slice B ys.length d]] w fun e w' => e = .returned (.tuple #[.agg #[.bool false, .slice none 0 0], .agg #[.bool false, .slice none 0 0], .bool false]) ∧ Below w.heap.size w w' :=
  zdiv_no A B c d s r xs ys w h h' hl hl' (by have := sg_abs r (val ys); rw [hy] at this; simpa using this.symm)
theorem rzdiv_z {u v : Int} (h : Dg w A c xs) (h' : Dg w B d ys) (hx : sg s (val xs) = x) (hy : sg r (val ys) = y) (hl : xs.length ≤ 100000) (hl' : ys.length ≤ 100000) (y0 : y ≠ 0) (hu : Int.fdiv x y = u) (hv : Int.fmod x y = v) :
    Calls Tryd.prog 34 #[.agg #[.bool s, .slice A xs.length c], .agg #[.bool r, .slice B ys.length d]] w fun e w' => Zr2 u v w e w' := by
  subst hu hv hx hy; exact rzdiv_any A B c d s r xs ys w h h' hl hl' (fun e => y0 (by rw [e]; unfold sg; cases r <;> rfl))
theorem rzdiv_z_no (h : Dg w A c xs) (h' : Dg w B d ys) (hy : sg r (val ys) = 0) (hl : xs.length ≤ 100000) (hl' : ys.length ≤ 100000) :
    Calls Tryd.prog 34 #[.agg #[.bool s, .slice A xs.length c], .agg #[.bool r, .slice B ys.length d]] w fun e w' => e = .returned (.tuple #[.agg #[.bool false, .slice none 0 0], .agg #[.bool false, .slice none 0 0], .bool false]) ∧ Below w.heap.size w w' :=
  rzdiv_no A B c d s r xs ys w h h' hl hl' (by have := sg_abs r (val ys); rw [hy] at this; simpa using this.symm)
theorem zsmall_z {q : Int} {ok : Bool} (h : Dg w A c xs) (hx : sg s (val xs) = x) (hl : xs.length ≤ 1000000) (hq : smallz x = q) (hok : smallb x = ok) :
    Calls Tryd.prog 27 #[.agg #[.bool s, .slice A xs.length c]] w fun e w' => e = .returned (.tuple #[.int .i64 q, .bool ok]) ∧ Below w.heap.size w w' := by
  subst hx; exact zsmall_any A c s xs w h hl q ok hq hok
theorem rzsmall_z {q : Int} {ok : Bool} (h : Dg w A c xs) (hx : sg s (val xs) = x) (hl : xs.length ≤ 1000000) (hq : smallz x = q) (hok : smallb x = ok) :
    Calls Tryd.prog 28 #[.agg #[.bool s, .slice A xs.length c]] w fun e w' => e = .returned (.tuple #[.int .i64 q, .bool ok]) ∧ Below w.heap.size w w' := by
  subst hx; exact rzsmall_any A c s xs w h hl q ok hq hok
theorem zadd_v {z : Int} (h : Dg w A c xs) (h' : Dg w B d ys) (hx : sg s (val xs) = x) (hy : sg r (val ys) = y) (hl : xs.length ≤ 1000000) (hl' : ys.length ≤ 1000000) (hz : x + y = z) :
    Calls Tryd.prog 15 #[.agg #[.bool s, .slice A xs.length c], .agg #[.bool r, .slice B ys.length d]] w fun e w' => Zr z w e w' := by
  subst hz; exact zadd_z h h' hx hy hl hl'
theorem rzadd_v {z : Int} (h : Dg w A c xs) (h' : Dg w B d ys) (hx : sg s (val xs) = x) (hy : sg r (val ys) = y) (hl : xs.length ≤ 900000) (hl' : ys.length ≤ 900000) (hz : x + y = z) :
    Calls Tryd.prog 16 #[.agg #[.bool s, .slice A xs.length c], .agg #[.bool r, .slice B ys.length d]] w fun e w' => Zr z w e w' := by
  subst hz; exact rzadd_z h h' hx hy hl hl'
theorem zsub_v {z : Int} (h : Dg w A c xs) (h' : Dg w B d ys) (hx : sg s (val xs) = x) (hy : sg r (val ys) = y) (hl : xs.length ≤ 1000000) (hl' : ys.length ≤ 1000000) (hz : x - y = z) :
    Calls Tryd.prog 17 #[.agg #[.bool s, .slice A xs.length c], .agg #[.bool r, .slice B ys.length d]] w fun e w' => Zr z w e w' := by
  subst hz; exact zsub_z h h' hx hy hl hl'
theorem rzsub_v {z : Int} (h : Dg w A c xs) (h' : Dg w B d ys) (hx : sg s (val xs) = x) (hy : sg r (val ys) = y) (hl : xs.length ≤ 900000) (hl' : ys.length ≤ 900000) (hz : x - y = z) :
    Calls Tryd.prog 18 #[.agg #[.bool s, .slice A xs.length c], .agg #[.bool r, .slice B ys.length d]] w fun e w' => Zr z w e w' := by
  subst hz; exact rzsub_z h h' hx hy hl hl'
theorem zmul_v {z : Int} (h : Dg w A c xs) (h' : Dg w B d ys) (hx : sg s (val xs) = x) (hy : sg r (val ys) = y) (hl : xs.length ≤ 500000) (hl' : ys.length ≤ 500000) (hz : x * y = z) :
    Calls Tryd.prog 19 #[.agg #[.bool s, .slice A xs.length c], .agg #[.bool r, .slice B ys.length d]] w fun e w' => Zr z w e w' := by
  subst hz; exact zmul_z h h' hx hy hl hl'
theorem rzmul_v {z : Int} (h : Dg w A c xs) (h' : Dg w B d ys) (hx : sg s (val xs) = x) (hy : sg r (val ys) = y) (hl : xs.length ≤ 400000) (hl' : ys.length ≤ 400000) (hz : x * y = z) :
    Calls Tryd.prog 20 #[.agg #[.bool s, .slice A xs.length c], .agg #[.bool r, .slice B ys.length d]] w fun e w' => Zr z w e w' := by
  subst hz; exact rzmul_z h h' hx hy hl hl'
theorem zneg_v {z : Int} (h : Dg w A c xs) (hx : sg s (val xs) = x) (hl : xs.length ≤ 1000000) (hz : -x = z) :
    Calls Tryd.prog 21 #[.agg #[.bool s, .slice A xs.length c]] w fun e w' => Zr z w e w' := by
  subst hz; exact zneg_z h hx hl
theorem rzneg_v {z : Int} (h : Dg w A c xs) (hx : sg s (val xs) = x) (hl : xs.length ≤ 1000000) (hz : -x = z) :
    Calls Tryd.prog 22 #[.agg #[.bool s, .slice A xs.length c]] w fun e w' => Zr z w e w' := by
  subst hz; exact rzneg_z h hx hl
theorem same_z {x y : Int} (h : Dg w A c (digs x.natAbs)) (h' : Dg w B d (digs y.natAbs)) (hl : (digs x.natAbs).length ≤ 16777216) (he : x = y) :
    Calls Tryd.prog 14 #[.agg #[.bool (decide (x < 0)), .slice A (digs x.natAbs).length c], .agg #[.bool (decide (y < 0)), .slice B (digs y.natAbs).length d]] w fun e w' => e = .returned (.bool true) ∧ Below w.heap.size w w' := by
  subst he; exact same_any A B c d _ _ w h h' hl
end
end Go.Proofs.YthgkdpfkaobgoaaDoor
end

section
/-
  The law's own 'examples' of chapter 4.
-/
namespace Go.Proofs.YthgkdpfkaobgoaaDoor
open Go.RowKit
theorem is_z (n : Int) : ∃ z : Int, n = z := ⟨n, rfl⟩
set_option maxHeartbeats 8000000 in
set_option maxRecDepth 100000 in
theorem examples_any (w : World) (htab : P10 w) : Calls Tryd.prog 12 #[] w fun e w' => e = .returned (.bool true) ∧ Below w.heap.size w w' := by
  have HT := Lib.hid htab
  clear htab
  obtain ⟨z1, h1⟩ := is_z (-7)
  obtain ⟨z2, h2⟩ := is_z 2
  obtain ⟨z4, h4⟩ := is_z (-4)
  obtain ⟨z0, h0⟩ := is_z 1
  obtain ⟨z5, h5⟩ := is_z (-5)
  obtain ⟨z6, h6⟩ := is_z (-9223372036854775808)
  obtain ⟨z7, h7⟩ := is_z (-120)
  have D1 := digs_one (a := 1) (by omega) (by omega)
  have D2 := digs_one (a := 2) (by omega) (by omega)
  have D4 := digs_one (a := 4) (by omega) (by omega)
  have D5 := digs_one (a := 5) (by omega) (by omega)
  have D7 := digs_one (a := 7) (by omega) (by omega)
  have D120 := digs_one (a := 120) (by omega) (by omega)
  have HQ := Lib.hid (show Int.fdiv z1 z2 = z4 by rw [← h1, ← h2, ← h4]; decide)
  have HR := Lib.hid (show Int.fmod z1 z2 = z0 by rw [← h1, ← h2, ← h0]; decide)
  have b1 : (digs z1.natAbs).length ≤ 1 := by rw [← h1]; show (digs 7).length ≤ 1; rw [D7]; simp
  have b2 : (digs z2.natAbs).length ≤ 1 := by rw [← h2]; show (digs 2).length ≤ 1; rw [D2]; simp
  have b4 : (digs z4.natAbs).length ≤ 1 := by rw [← h4]; show (digs 4).length ≤ 1; rw [D4]; simp
  have b0 : (digs z0.natAbs).length ≤ 1 := by rw [← h0]; show (digs 1).length ≤ 1; rw [D1]; simp
  have b5 : (digs z5.natAbs).length ≤ 1 := by rw [← h5]; show (digs 5).length ≤ 1; rw [D5]; simp
  have b6 : (digs z6.natAbs).length ≤ 2 := by rw [← h6]; exact digs_small (by decide)
  have b7 : (digs z7.natAbs).length ≤ 1 := by rw [← h7]; show (digs 120).length ≤ 1; rw [D120]; simp
  have HS := Lib.hid (show smallz z6 = z6 ∧ smallb z6 = true by rw [← h6]; decide)
  have HBY := Lib.hid (show rightB (decide (z5 < 0)) (digs z5.natAbs) = true ∧ zbytes (decide (z5 < 0)) (digs z5.natAbs) = [0, 3, 5, 0, 0, 0] by
    rw [← h5]
    show rightB true (digs 5) = true ∧ zbytes true (digs 5) = [0, 3, 5, 0, 0, 0]
    rw [D5]; decide)
  have HTX := Lib.hid (show 0 < val (digs z7.natAbs) ∧ val (digs z7.natAbs) < 1000000000 ∧ textOne (decide (z7 < 0)) (val (digs z7.natAbs)) = [45, 49, 50, 48] by
    rw [val_digs, ← h7]
    refine ⟨by decide, by decide, ?_⟩
    show textOne true 120 = _
    unfold textOne
    rw [Lib.decDigits, dif_neg (by omega), Lib.decDigits_two (by omega) (by omega)]
    decide)
  have HZ := Lib.hid (And.intro h1 (And.intro h2 (And.intro h4 (And.intro h0 (And.intro h5 (And.intro h6 h7))))))
  clear D1 D2 D4 D5 D7 D120 h1 h2 h4 h0 h5 h6 h7
  go_enter Tryd.func12, Tryd.ntmps12
  have L0 := Lib.hid (live_start w)
  go_wp2_with fail
  refine (zfrom_z (x := z1) HZ.out.1 (by have := HZ.out.1; omega) (by have := HZ.out.1; omega)).mono ?_
  rintro e w1 ⟨A1, c1, rfl, hd, hb⟩
  have L1 := Lib.hid ((L0.out.step hb).add hd)
  clear hb hd
  go_wp2_with fail
  refine (zfrom_z (x := z2) HZ.out.2.1 (by have := HZ.out.2.1; omega) (by have := HZ.out.2.1; omega)).mono ?_
  rintro e w2 ⟨A2, c2, rfl, hd, hb⟩
  have L2 := Lib.hid ((L1.out.step hb).add hd)
  clear hb hd
  go_wp2_with fail
  refine (zdiv_z (x := z1) (y := z2) (u := z4) (v := z0) (L2.out.get (by simp)) (L2.out.get (by simp)) (sg_z _) (sg_z _) (by omega) (by omega) (by have := HZ.out.2.1; omega) HQ.out HR.out).mono ?_
  rintro e w3 ⟨A3, c3, B3, d3, rfl, hd, hd', hb⟩
  have L3 := Lib.hid (((L2.out.step hb).add hd).add hd')
  clear hb hd hd'
  go_wp2_with fail
  obtain ⟨w4, hW⟩ : ∃ W : World, W = ((w3.alloc (.cells #[.bool (decide (z4 < 0)), .slice A3 (digs z4.natAbs).length c3] 24)).alloc (.cells #[.bool (decide (z0 < 0)), .slice B3 (digs z0.natAbs).length d3] 24)) := ⟨_, rfl⟩
  rw [← hW]
  have hb : Below w3.heap.size w3 w4 := by rw [hW]; exact below2 _ _ _
  have L4 := Lib.hid (L3.out.step hb)
  have Rq_4 := Lib.hid (show w4.heap[w3.heap.size]? = some (.cells #[.bool (decide (z4 < 0)), .slice A3 (digs z4.natAbs).length c3] 24 (0, 0)) by rw [hW]; exact heap_alloc2_old _ _ _)
  have Rr_4 := Lib.hid (show w4.heap[w3.heap.size + 1]? = some (.cells #[.bool (decide (z0 < 0)), .slice B3 (digs z0.natAbs).length d3] 24 (0, 0)) by rw [hW]; exact heap_alloc2_new _ _ _)
  clear hW hb
  go_wp2_with fail
  have fq0 := cell_of_row w4 _ 0 _ _ _ Rq_4.out
  have fq1 := cell_of_row w4 _ 1 _ _ _ Rq_4.out
  have xq := heap_lt Rq_4.out
  simp only [List.getElem?_toArray, List.getElem?_cons_zero, List.getElem?_cons_succ] at fq0 fq1
  have KD := Lib.hid (bd0 w4)
  have LD := Lib.hid (L4.out.step KD.out)
  go_region_held3 (fun w' => ∀ b o, b < w4.heap.size → w'.cell? ⟨b, o, none⟩ = w4.cell? ⟨b, o, none⟩)
    (first | with_reducible exact (bcell KD.out).1 | with_reducible exact (bcell K6.out).1 | with_reducible exact (bcell K7.out).1)
    (first
      | (go_at_call 23; (with_reducible refine (zfrom_z (x := z4) HZ.out.2.2.1 (by have := HZ.out.2.2.1; omega) (by have := HZ.out.2.2.1; omega)).mono ?_); rintro e w6 ⟨A6, c6, rfl, hd, hb⟩; (have K6 := Lib.hid (KD.out.trans (hb.mono KD.out.size))); (have L6 := Lib.hid ((LD.out.step hb).add hd)); clear hb hd)
      | (go_at_call 14; (with_reducible refine (same_z (x := z4) (y := z4) (L6.out.get (by simp)) (L6.out.get (by simp)) (by omega) rfl).mono ?_); rintro e w7 ⟨rfl, hb⟩; (have K7 := Lib.hid (K6.out.trans (hb.mono K6.out.size))); (have L7 := Lib.hid (L6.out.step hb)); clear hb ))
  clear fq0 fq1 xq
  have Rq_7 := Lib.hid (cells_of Rq_4.out K7.out)
  have Rr_7 := Lib.hid (cells_of Rr_4.out K7.out)
  clear KD LD
  go_wp2_with fail
  have fr0 := cell_of_row w7 _ 0 _ _ _ Rr_7.out
  have fr1 := cell_of_row w7 _ 1 _ _ _ Rr_7.out
  have xr := heap_lt Rr_7.out
  simp only [List.getElem?_toArray, List.getElem?_cons_zero, List.getElem?_cons_succ] at fr0 fr1
  have KD := Lib.hid (bd0 w7)
  have LD := Lib.hid (L7.out.step KD.out)
  go_region_held3 (fun w' => ∀ b o, b < w7.heap.size → w'.cell? ⟨b, o, none⟩ = w7.cell? ⟨b, o, none⟩)
    (first | with_reducible exact (bcell KD.out).1 | with_reducible exact (bcell K9.out).1 | with_reducible exact (bcell K10.out).1)
    (first
      | (go_at_call 23; (with_reducible refine (zfrom_z (x := z0) HZ.out.2.2.2.1 (by have := HZ.out.2.2.2.1; omega) (by have := HZ.out.2.2.2.1; omega)).mono ?_); rintro e w9 ⟨A9, c9, rfl, hd, hb⟩; (have K9 := Lib.hid (KD.out.trans (hb.mono KD.out.size))); (have L9 := Lib.hid ((LD.out.step hb).add hd)); clear hb hd)
      | (go_at_call 14; (with_reducible refine (same_z (x := z0) (y := z0) (L9.out.get (by simp)) (L9.out.get (by simp)) (by omega) rfl).mono ?_); rintro e w10 ⟨rfl, hb⟩; (have K10 := Lib.hid (K9.out.trans (hb.mono K9.out.size))); (have L10 := Lib.hid (L9.out.step hb)); clear hb ))
  clear fr0 fr1 xr
  have Rq_10 := Lib.hid (cells_of Rq_7.out K10.out)
  have Rr_10 := Lib.hid (cells_of Rr_7.out K10.out)
  clear KD LD
  go_wp2_with fail
  refine (zfrom_z (x := z5) HZ.out.2.2.2.2.1 (by have := HZ.out.2.2.2.2.1; omega) (by have := HZ.out.2.2.2.2.1; omega)).mono ?_
  rintro e w11 ⟨A11, c11, rfl, hd, hb⟩
  have L11 := Lib.hid ((L10.out.step hb).add hd)
  have Rq_11 := Lib.hid (cells_of Rq_10.out hb)
  have Rr_11 := Lib.hid (cells_of Rr_10.out hb)
  clear hb hd
  have BY := Lib.hid (zbytes_any A11 c11 (decide (z5 < 0)) (digs z5.natAbs) w11 (L11.out.get (by simp)) (by omega) HBY.out.1)
  rw [HBY.out.2] at BY
  go_wp2_with fail
  refine (BY.out).mono ?_
  rintro e w12 ⟨rfl, hb⟩
  have L12 := Lib.hid (L11.out.step hb)
  have Rq_12 := Lib.hid (cells_of Rq_11.out hb)
  have Rr_12 := Lib.hid (cells_of Rr_11.out hb)
  clear hb 
  clear BY
  go_wp2_with fail
  refine (zfrom_z (x := z6) HZ.out.2.2.2.2.2.1 (by have := HZ.out.2.2.2.2.2.1; omega) (by have := HZ.out.2.2.2.2.2.1; omega)).mono ?_
  rintro e w13 ⟨A13, c13, rfl, hd, hb⟩
  have L13 := Lib.hid ((L12.out.step hb).add hd)
  have Rq_13 := Lib.hid (cells_of Rq_12.out hb)
  have Rr_13 := Lib.hid (cells_of Rr_12.out hb)
  clear hb hd
  have Z6 := Lib.hid HZ.out.2.2.2.2.2.1
  have SM := Lib.hid (zsmall_z (x := z6) (q := -9223372036854775808) (ok := true) (L13.out.get (A := A13) (c := c13) (xs := digs z6.natAbs) (by simp)) (sg_z _) (by omega) (by rw [HS.out.1]; exact Z6.out.symm) HS.out.2)
  go_wp2_with fail
  refine (SM.out).mono ?_
  rintro e w14 ⟨rfl, hb⟩
  have L14 := Lib.hid (L13.out.step hb)
  have Rq_14 := Lib.hid (cells_of Rq_13.out hb)
  have Rr_14 := Lib.hid (cells_of Rr_13.out hb)
  clear hb 
  clear SM
  go_wp2_with fail
  refine (zfrom_z (x := z7) HZ.out.2.2.2.2.2.2 (by have := HZ.out.2.2.2.2.2.2; omega) (by have := HZ.out.2.2.2.2.2.2; omega)).mono ?_
  rintro e w15 ⟨A15, c15, rfl, hd, hb⟩
  have L15 := Lib.hid ((L14.out.step hb).add hd)
  have Rq_15 := Lib.hid (cells_of Rq_14.out hb)
  have Rr_15 := Lib.hid (cells_of Rr_14.out hb)
  clear hb hd
  have TX := Lib.hid (ztext_one A15 c15 (decide (z7 < 0)) (digs z7.natAbs) w15 (L15.out.get (by simp)) (by omega) HTX.out.1 HTX.out.2.1 (p10_below HT.out L15.out.1))
  rw [HTX.out.2.2] at TX
  go_wp2_with fail
  refine (TX.out).mono ?_
  rintro e w16 ⟨rfl, hb⟩
  have L16 := Lib.hid (L15.out.step hb)
  have Rq_16 := Lib.hid (cells_of Rq_15.out hb)
  have Rr_16 := Lib.hid (cells_of Rr_15.out hb)
  clear hb 
  clear TX
  go_wp2
  go_ret
  exact ⟨rfl, L16.out.1⟩
end Go.Proofs.YthgkdpfkaobgoaaDoor
end

section
/-
  Small words for the laws of chapter 4.
-/
namespace Go.Proofs.YthgkdpfkaobgoaaDoor
open Go.RowKit
theorem lshort_v {A : Option Addr} {c k : Nat} {s : Bool} {xs ts : List Nat} {w : World} (h : Dg w A c xs) (hk : k ≤ 1000000) (ht : xs.take k = ts) :
    Calls Tryd.prog 13 #[.agg #[.bool s, .slice A xs.length c], .int .i64 k] w fun e w' => e = .returned (.agg #[.bool s, .slice A ts.length c]) ∧ Below w.heap.size w w' := by
  subst ht; exact lshort_any A c k s xs w h hk
theorem le6 {n k : Nat} (h : n ≤ 100000) (hk : 100000 ≤ k := by omega) : n ≤ k := Nat.le_trans h hk
theorem below_n3 (w : World) (o1 o2 o3 : Obj) : Below w.heap.size w (((w.alloc o1).alloc o2).alloc o3) := below3 w o1 o2 o3
end Go.Proofs.YthgkdpfkaobgoaaDoor
end

section
/-
  A number of its own digits is right.
-/
namespace Go.Proofs.YthgkdpfkaobgoaaDoor
open Go.RowKit
set_option maxRecDepth 100000
theorem right_digs (x : Int) : rightB (decide (x < 0)) (digs x.natAbs) = true := by
  unfold rightB
  split
  · rename_i h
    have h0 : x.natAbs = 0 := by
      have := val_digs x.natAbs
      rw [List.length_eq_zero_iff.1 h] at this
      exact this.symm
    have : ¬ x < 0 := by omega
    simp [this]
  · rename_i h
    have hl : ∀ d, (digs x.natAbs)[(digs x.natAbs).length - 1]? = some d → d ≠ 0 := fun d hd => last_digs (n := x.natAbs) (by rw [List.getLast?_eq_getElem?]; exact hd)
    rcases hx : (digs x.natAbs)[(digs x.natAbs).length - 1]? with _ | d
    · rw [List.getElem?_eq_none_iff] at hx; omega
    · have := hl d hx
      simp [this]
theorem right_z {A : Option Addr} {c : Nat} {x : Int} {w : World} (h : Dg w A c (digs x.natAbs)) (hl : (digs x.natAbs).length ≤ 1000000) :
    Calls Tryd.prog 31 #[.agg #[.bool (decide (x < 0)), .slice A (digs x.natAbs).length c]] w fun e w' => e = .returned (.bool true) ∧ Below w.heap.size w w' :=
  right_any A c _ _ w h true (right_digs x) (by omega)
theorem right_w {A : Option Addr} {c : Nat} {s q : Bool} {xs : List Nat} {w : World} (h : Dg w A c xs) (hl : xs.length ≤ 9223372036854775807) (hq : rightB s xs = q) :
    Calls Tryd.prog 31 #[.agg #[.bool s, .slice A xs.length c]] w fun e w' => e = .returned (.bool q) ∧ Below w.heap.size w w' := right_any A c s xs w h q hq hl
theorem rright_w {A : Option Addr} {c : Nat} {s q : Bool} {xs : List Nat} {w : World} (h : Dg w A c xs) (hl : xs.length ≤ 9223372036854775807) (hq : rightB s xs = q) :
    Calls Tryd.prog 32 #[.agg #[.bool s, .slice A xs.length c]] w fun e w' => e = .returned (.bool q) ∧ Below w.heap.size w w' := rright_any A c s xs w h q hq hl
theorem zlen_64 {n : Int} (h0 : -9223372036854775808 ≤ n) (h1 : n ≤ 9223372036854775807) : (digs n.natAbs).length ≤ 2 := digs_small (n := n.natAbs) (by omega)
end Go.Proofs.YthgkdpfkaobgoaaDoor
end

section
/-
  Words on quotient and rest, for the laws of chapter 4.
-/
namespace Go.Proofs.YthgkdpfkaobgoaaDoor
open Go.RowKit
set_option maxRecDepth 100000
theorem fmod_bd (x : Int) {y : Int} (h : y ≠ 0) : (x.fmod y).natAbs < y.natAbs ∧ (x.fmod y ≠ 0 → decide (x.fmod y < 0) = decide (y < 0)) := by
  rcases Int.lt_or_gt_of_ne h with hn | hp
  · have e := Int.neg_fmod_neg x y
    have h1 := Int.fmod_lt_of_pos (-x) (show 0 < -y by omega)
    have h2 := Int.fmod_nonneg_of_pos (-x) (show 0 < -y by omega)
    rw [e] at h1 h2
    exact ⟨by omega, fun h0 => by rw [decide_eq_true hn, decide_eq_true (by omega)]⟩
  · have h1 := Int.fmod_lt_of_pos x hp
    have h2 := Int.fmod_nonneg_of_pos x hp
    exact ⟨by omega, fun h0 => by rw [decide_eq_false (by omega), decide_eq_false (by omega)]⟩
theorem zlen_fdiv (x y : Int) : (digs (x.fdiv y).natAbs).length ≤ (digs x.natAbs).length := digs_len_mono _ _ (Int.natAbs_fdiv_le_natAbs x y)
theorem zlen_fmod (x : Int) {y : Int} (h : y ≠ 0) : (digs (x.fmod y).natAbs).length ≤ (digs y.natAbs).length := digs_len_mono _ _ (Nat.le_of_lt (fmod_bd x h).1)
theorem zlen_abs (x : Int) : (digs (x.natAbs : Int).natAbs).length = (digs x.natAbs).length := by rw [Int.natAbs_natCast]
theorem sign_ne {x y : Int} (h : x ≠ y) : (Int.sign (x - y) == 0) = false := by
  rw [beq_eq_false_iff_ne]; intro e; exact h (by have := Int.sign_eq_zero_iff_zero.1 e; omega)
theorem sign_is {x : Int} : (Int.sign (x - 0) == 0) = decide (x = 0) := by
  rw [Int.sub_zero]
  by_cases h : x = 0
  · subst h; rfl
  · rw [decide_eq_false h, beq_eq_false_iff_ne]; intro e; exact h (Int.sign_eq_zero_iff_zero.1 e)
end Go.Proofs.YthgkdpfkaobgoaaDoor
end
