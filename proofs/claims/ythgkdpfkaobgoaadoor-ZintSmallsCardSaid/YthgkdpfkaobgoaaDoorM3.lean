import Derived.Test.YthgkdpfkaobgoaaDoorM2
import Derived.Test.YthgkdpfkaobgoaaDoorM1
import Derived.Test.YthgkdpfkaobgoaaDoorM0
import Derived.Maps.AppendAt
import Derived.Deep.AppendLies
section
/-
  zint.Div, behind a divisor that is not nought.
-/
namespace Go.Proofs.YthgkdpfkaobgoaaDoor
open Go.RowKit
set_option maxHeartbeats 8000000 in
set_option maxRecDepth 100000 in
theorem zdiv_any (A B : Option Addr) (c d : Nat) (s r : Bool) (xs ys : List Nat) (w : World) (h : Dg w A c xs) (h' : Dg w B d ys) (hl : xs.length ≤ 500000) (hl' : ys.length ≤ 500000) (hy : val ys ≠ 0) :
    Calls Tryd.prog 33 #[.agg #[.bool s, .slice A xs.length c], .agg #[.bool r, .slice B ys.length d]] w fun e w' => Zr2 (Int.fdiv (sg s (val xs)) (sg r (val ys))) (Int.fmod (sg s (val xs)) (sg r (val ys))) w e w' := by
  have HY := Lib.hid hy
  clear hy
  have l1 := digs_len_le h.2.1
  have l2 := digs_len_le h'.2.1
  obtain ⟨t1, ht1⟩ : ∃ t, (s && decide (0 < val xs)) = t := ⟨_, rfl⟩
  obtain ⟨t2, ht2⟩ : ∃ t, (r && decide (0 < val ys)) = t := ⟨_, rfl⟩
  have TA := Lib.hid (fun W h => take_any A c s xs W h (by omega))
  have TB := Lib.hid (fun W h => take_any B d r ys W h (by omega))
  have E1 := Lib.hid (sg_take s (val xs))
  have E2 := Lib.hid (sg_take r (val ys))
  rw [ht1] at TA E1
  rw [ht2] at TB E2
  have HT1 := Lib.hid ht1
  have HT2 := Lib.hid ht2
  clear ht1 ht2
  go_enter Tryd.func33, Tryd.ntmps33
  go_upto_region 1 with fail
  have HB0 := Lib.hid (below4 w (.cells #[.bool s, .slice A xs.length c] 24) (.cells #[.bool r, .slice B ys.length d] 24) (.cells #[.bool false, .slice none 0 0] 24) (.cells #[.bool false, .slice none 0 0] 24))
  obtain ⟨W, hW⟩ : ∃ W : World, W = ((((w.alloc (.cells #[.bool s, .slice A xs.length c] 24)).alloc (.cells #[.bool r, .slice B ys.length d] 24)).alloc (.cells #[.bool false, .slice none 0 0] 24)).alloc (.cells #[.bool false, .slice none 0 0] 24)) := ⟨_, rfl⟩
  have F0 : W.cell? ⟨w.heap.size, 0, none⟩ = some (.bool s) ∧ W.cell? ⟨w.heap.size, 1, none⟩ = some (.slice A xs.length c) ∧ W.cell? ⟨w.heap.size + 1, 0, none⟩ = some (.bool r) ∧ W.cell? ⟨w.heap.size + 1, 1, none⟩ = some (.slice B ys.length d) := by
    rw [hW]
    refine ⟨?_, ?_, ?_, ?_⟩ <;> go_simp
  rw [← hW] at HB0
  rw [← hW]
  have H1 := Lib.hid (h.below HB0.out)
  have H2 := Lib.hid (h'.below HB0.out)
  have hsz : W.heap.size = w.heap.size + 4 := by rw [hW]; simp
  have HR0 := Lib.hid (show W.heap[w.heap.size + 1 + 1]? = some (.cells #[.bool false, .slice none 0 0] 24 (0, 0)) by rw [hW]; have := heap_alloc_new ((w.alloc (.cells #[.bool s, .slice A xs.length c] 24)).alloc (.cells #[.bool r, .slice B ys.length d] 24)) (.cells #[.bool false, .slice none 0 0] 24); rw [heap_alloc_old _ _ (by simp)]; simpa using this)
  have HR1 := Lib.hid (show W.heap[w.heap.size + 1 + 1 + 1]? = some (.cells #[.bool false, .slice none 0 0] 24 (0, 0)) by rw [hW]; have := heap_alloc_new (((w.alloc (.cells #[.bool s, .slice A xs.length c] 24)).alloc (.cells #[.bool r, .slice B ys.length d] 24)).alloc (.cells #[.bool false, .slice none 0 0] 24)) (.cells #[.bool false, .slice none 0 0] 24); simpa using this)
  have HW := Lib.hid hW
  clear hW h h'
  have S0 : w.heap.size < W.heap.size := by omega
  have S1 : w.heap.size + 1 < W.heap.size := by omega
  have HZ := Lib.hid hsz
  clear hsz
  refine two_calls (W := W) rfl 13 14 15 16 7 8 (.agg #[.bool s, .slice A xs.length c]) (.agg #[.bool r, .slice B ys.length d])
    (fun u w' => ∃ A' c', u = .agg #[.slice A' (digs (val xs)).length c', .bool t1] ∧ Dg w' A' c' (digs (val xs)))
    (fun u w' => ∃ A' c', u = .agg #[.slice A' (digs (val ys)).length c', .bool t2] ∧ Dg w' A' c' (digs (val ys)))
    #[.slice none 0 0, .bool false] 59 (fun | .agg us => us | _ => #[])
    rfl (by kernel_rfl) (by kernel_rfl) (by decide) (by kernel_rfl) noint2 ?_ ?_ ?_ ?_ ?_ ?_ ?_ ?_ ?_ ?_ (bd0 W) ?_
  · rintro u w1 w2 ⟨A', c', rfl, hd⟩ hk; exact ⟨A', c', rfl, hd.kept hk⟩
  · rintro u w1 w2 ⟨A', c', rfl, hd⟩ hk; exact ⟨A', c', rfl, hd.kept hk⟩
  · intro a v K hF hb hK
    simp only [wpOp, List.getElem?_toArray, List.getElem?_cons_zero, Region.wanted, if_true]
    refine Or.inl ?_
    have e : a.eval (.tmp 2) = .pointer (some ⟨w.heap.size, 0, none⟩) := hF.2.2 2 (by decide)
    obtain ⟨hc, _⟩ := bcell hb
    simp only [Oper.wp, execOp]
    rw [e]
    go_simp
    exact hK
  · intro a v K hF hb hK
    simp only [wpOp, List.getElem?_toArray, List.getElem?_cons_succ, List.getElem?_cons_zero, Region.wanted, if_true]
    refine Or.inl ?_
    have e : a.eval (.tmp 3) = .pointer (some ⟨w.heap.size + 1, 0, none⟩) := hF.2.2 3 (by decide)
    obtain ⟨hc, _⟩ := bcell hb
    simp only [Oper.wp, execOp]
    rw [e]
    go_simp
    exact hK
  · intro a v K hF hb h1 hK
    simp only [wpOp, List.getElem?_toArray, List.getElem?_cons_succ, List.getElem?_cons_zero, Region.wanted, if_true]
    refine Or.inl ?_
    have e : a.eval (.tmp 13) = .agg #[.bool s, .slice A xs.length c] := h1
    simp only [Oper.wp, execOp]
    go_simp
    refine (TA.out v (H1.out.below hb)).mono ?_
    rintro e w1 ⟨A', c', rfl, hd, hbb⟩
    exact hK _ _ ⟨A', c', rfl, hd⟩ hbb
  · intro a v K hF hb h1 hK
    simp only [wpOp, List.getElem?_toArray, List.getElem?_cons_succ, List.getElem?_cons_zero, Region.wanted, if_true]
    refine Or.inl ?_
    have e : a.eval (.tmp 15) = .agg #[.bool r, .slice B ys.length d] := h1
    simp only [Oper.wp, execOp]
    go_simp
    refine (TB.out v (H2.out.below hb)).mono ?_
    rintro e w1 ⟨A', c', rfl, hd, hbb⟩
    exact hK _ _ ⟨A', c', rfl, hd⟩ hbb
  · intro a v K hF hK
    simp only [wpOp, List.getElem?_toArray, List.getElem?_cons_succ, List.getElem?_cons_zero, Region.wanted, if_true]
    refine Or.inl ?_
    simp only [Oper.wp, execOp]
    go_simp
    exact hK
  · intro a v K hF hK
    simp only [wpOp, List.getElem?_toArray, List.getElem?_cons_succ, List.getElem?_cons_zero, Region.wanted, if_true]
    refine Or.inl ?_
    simp only [Oper.wp, execOp]
    go_simp
    exact hK
  · intro a v K g u hF hx hc hR hg hK
    simp only [wpOp, List.getElem?_toArray, List.getElem?_cons_succ, List.getElem?_cons_zero, Region.wanted, if_true]
    refine Or.inl ?_
    obtain ⟨A', c', rfl, hd⟩ := hR
    have e : a.eval (.tmp 7) = .pointer (some ⟨g, 0, none⟩) := hx
    have e' : a.eval (.tmp 14) = _ := hc
    simp only [Oper.wp, execOp]
    rw [e, e']
    have f0 := cell_of_row v g 0 _ _ _ hg
    have f1 := cell_of_row v g 1 _ _ _ hg
    have z0 := frozen_of_row v g 0 _ _ hg
    have z1 := frozen_of_row v g 1 _ _ hg
    go_simp
    exact hK _ (heap_setCell_same _ _ 1 _ _ _ (heap_setCell_same _ _ 0 _ _ _ hg)) (((Only.refl g v).setCell 0 _).setCell 1 _)
  · intro a v K g u hF hx hc hR hg hK
    simp only [wpOp, List.getElem?_toArray, List.getElem?_cons_succ, List.getElem?_cons_zero, Region.wanted, if_true]
    refine Or.inl ?_
    obtain ⟨A', c', rfl, hd⟩ := hR
    have e : a.eval (.tmp 8) = .pointer (some ⟨g, 0, none⟩) := hx
    have e' : a.eval (.tmp 16) = _ := hc
    simp only [Oper.wp, execOp]
    rw [e, e']
    have f0 := cell_of_row v g 0 _ _ _ hg
    have f1 := cell_of_row v g 1 _ _ _ hg
    have z0 := frozen_of_row v g 0 _ _ hg
    have z1 := frozen_of_row v g 1 _ _ hg
    go_simp
    exact hK _ (heap_setCell_same _ _ 1 _ _ _ (heap_setCell_same _ _ 0 _ _ _ hg)) (((Only.refl g v).setCell 0 _).setCell 1 _)
  · intro a v g1 g2 u1 u2 hF hb h1 h2 hne
    obtain ⟨hl1, hc1, hx1⟩ := h1
    obtain ⟨hl2, hc2, hx2⟩ := h2
    obtain ⟨ec1, A1, c1, rfl, hd1⟩ := hc1 rfl
    obtain ⟨ec2, A2, c2, rfl, hd2⟩ := hc2 rfl
    obtain ⟨ex1, hg1, hs1, hh1⟩ := hx1 rfl
    obtain ⟨ex2, hg2, hs2, hh2⟩ := hx2 rfl
    rw [hF.eq (by kernel_rfl) (hl1 rfl) ec1 (hl2 rfl) ec2 ex1 ex2]
    simp only [if_true] at hh1 hh2
    have HH := Lib.hid (And.intro hh1 hh2)
    have HF := Lib.hid (And.intro (cell_of_row v g1 0 _ _ _ hh1) (And.intro (cell_of_row v g1 1 _ _ _ hh1) (And.intro (cell_of_row v g2 0 _ _ _ hh2) (cell_of_row v g2 1 _ _ _ hh2))))
    have KB := Lib.hid hb
    have D1 := Lib.hid hd1
    have D2 := Lib.hid hd2
    clear hF hb hl1 hc1 hx1 hl2 hc2 hx2 ec1 ec2 ex1 ex2 hh1 hh2 hd1 hd2 hne
    simp only [Act.put, List.setIfInBounds_toArray, List.set_cons_zero, List.set_cons_succ]
    clear TA TB
    have HC := Lib.hid (fun W h1 h2 => divmod_any A1 A2 c1 c2 (digs (val xs)) (digs (val ys)) W h1 h2 (by omega) (by omega) (by rw [val_digs]; exact HY.out))
    simp only [val_digs] at HC
    have b1 := digs_len_mono _ _ (Nat.div_le_self (val xs) (val ys))
    have b2 := digs_len_mono _ _ (Nat.le_of_lt (Nat.mod_lt (val xs) (Nat.pos_of_ne_zero HY.out)))
    have KC := Lib.hid (HB0.out.trans (KB.out.mono HB0.out.size))
    have z1 : (w.heap.size + 1 + 1 : Nat) < v.heap.size := by have := HZ.out; have := KB.out.size; omega
    have z2 : (w.heap.size + 1 + 1 + 1 : Nat) < v.heap.size := by have := HZ.out; have := KB.out.size; omega
    have f1 := HF.out.1
    have f2 := HF.out.2.1
    have f3 := HF.out.2.2.1
    have f4 := HF.out.2.2.2
    simp only [List.getElem?_toArray, List.getElem?_cons_zero, List.getElem?_cons_succ] at f1 f2 f3 f4
    go_wp2_with fail
    refine (HC.out _ D1.out D2.out).mono ?_
    rintro e v1 ⟨A3, c3, B3, d3, rfl, hd3, hd4, hb⟩
    have K1 := Lib.hid hb
    have zv := hb.size
    clear f1 f2 f3 f4 HC
    go_upto_region 6 with fail
    obtain ⟨V, hV⟩ : ∃ V : World, V = (v1.alloc (.cells #[.slice A3 (digs (val xs / val ys)).length c3] 57)).alloc (.cells #[.slice B3 (digs (val xs % val ys)).length d3] 57) := ⟨_, rfl⟩
    rw [← hV]
    have KV := Lib.hid (show Below v1.heap.size v1 V by rw [hV]; exact below2 _ _ _)
    have RV := Lib.hid (show V.heap[v1.heap.size]? = some (.cells #[.slice A3 (digs (val xs / val ys)).length c3] 57 (0, 0)) ∧ V.heap[v1.heap.size + 1]? = some (.cells #[.slice B3 (digs (val xs % val ys)).length d3] 57 (0, 0)) ∧ V.heap[g1]? = some (.cells #[.slice A1 (digs (val xs)).length c1, .bool t1] 59 (0, 0)) ∧ V.heap[g2]? = some (.cells #[.slice A2 (digs (val ys)).length c2, .bool t2] 59 (0, 0)) by
      refine ⟨?_, ?_, ?_, ?_⟩
      · rw [hV]; exact heap_alloc2_old _ _ _
      · rw [hV]; exact heap_alloc2_new _ _ _
      · exact cells_of (cells_of HH.out.1 K1.out) KV.out
      · exact cells_of (cells_of HH.out.2 K1.out) KV.out)
    have D3 := Lib.hid (hd3.below KV.out)
    have D4 := Lib.hid (hd4.below KV.out)
    have DY := Lib.hid ((D2.out.below K1.out).below KV.out)
    have KW := Lib.hid (KB.out.trans ((K1.out.trans (KV.out.mono K1.out.size)).mono KB.out.size))
    have y1 : v1.heap.size < V.heap.size := heap_lt RV.out.1
    have y2 : v1.heap.size + 1 < V.heap.size := heap_lt RV.out.2.1
    have y3 : g1 < V.heap.size := heap_lt RV.out.2.2.1
    have y4 : g2 < V.heap.size := heap_lt RV.out.2.2.2
    have n1 := Lib.hid (show v1.heap.size ≠ w.heap.size + 1 + 1 ∧ v1.heap.size ≠ w.heap.size + 1 + 1 + 1 ∧ v1.heap.size + 1 ≠ w.heap.size + 1 + 1 ∧ v1.heap.size + 1 ≠ w.heap.size + 1 + 1 + 1 ∧ g1 ≠ w.heap.size + 1 + 1 ∧ g1 ≠ w.heap.size + 1 + 1 + 1 ∧ g2 ≠ w.heap.size + 1 + 1 ∧ g2 ≠ w.heap.size + 1 + 1 + 1 ∧ g2 ≠ v1.heap.size ∧ g2 ≠ v1.heap.size + 1 by have := HZ.out; have := KB.out.size; omega)
    clear hV hd3 hd4 hb D1 D2 HF HH H1 H2 KV K1
    cases ht : (t1 != t2)
    · have et : t1 = t2 := by simpa using ht
      have ET := Lib.hid et
      clear et
      have f1 := cell_of_row V _ 1 _ _ _ RV.out.2.2.1
      have f2 := cell_of_row V _ 1 _ _ _ RV.out.2.2.2
      simp only [List.getElem?_toArray, List.getElem?_cons_zero, List.getElem?_cons_succ] at f1 f2
      have RX := RV
      have KX := KW
      have x1 := y1
      have x2 := y2
      have x3 := y3
      have x4 := y4
      go_wp2_with fail
      clear f1 f2
      clear RV
      have f1 := cell_of_row V _ 0 _ _ _ RX.out.1
      have f2 := cell_of_row V _ 0 _ _ _ RX.out.2.1
      have f3 := cell_of_row V _ 1 _ _ _ RX.out.2.2.1
      have f4 := cell_of_row V _ 1 _ _ _ RX.out.2.2.2
      simp only [List.getElem?_toArray, List.getElem?_cons_zero, List.getElem?_cons_succ] at f1 f2 f3 f4
      have HS8 := Lib.hid (And.intro f1 (And.intro f2 (And.intro f3 f4)))
      clear f1 f2 f3 f4
      have KD := Lib.hid (below_drew (Below.refl V.heap.size V))
      go_region_held3 (fun w' => w'.cell? ⟨v1.heap.size, 0, none⟩ = some (.slice A3 (digs (val xs / val ys)).length c3) ∧ w'.cell? ⟨v1.heap.size + 1, 0, none⟩ = some (.slice B3 (digs (val xs % val ys)).length d3) ∧ w'.cell? ⟨g1, 1, none⟩ = some (.bool t1) ∧ w'.cell? ⟨g2, 1, none⟩ = some (.bool t2))
        (first | with_reducible exact HS8.out | with_reducible exact carry4 KD.out HS8.out x1 x2 x3 x4 | with_reducible exact carry4 L1.out HS8.out x1 x2 x3 x4 | with_reducible exact carry4 L2.out HS8.out x1 x2 x3 x4 | with_reducible exact set4 (set4 (carry4 L2.out HS8.out x1 x2 x3 x4) n1.out.1 n1.out.2.2.1 n1.out.2.2.2.2.1 n1.out.2.2.2.2.2.2.1) n1.out.1 n1.out.2.2.1 n1.out.2.2.2.2.1 n1.out.2.2.2.2.2.2.1 | with_reducible exact set4 (set4 (set4 (set4 (carry4 L2.out HS8.out x1 x2 x3 x4) n1.out.1 n1.out.2.2.1 n1.out.2.2.2.2.1 n1.out.2.2.2.2.2.2.1) n1.out.1 n1.out.2.2.1 n1.out.2.2.2.2.1 n1.out.2.2.2.2.2.2.1) n1.out.2.1 n1.out.2.2.2.1 n1.out.2.2.2.2.2.1 n1.out.2.2.2.2.2.2.2.1) n1.out.2.1 n1.out.2.2.2.1 n1.out.2.2.2.2.2.1 n1.out.2.2.2.2.2.2.2.1)
        (first
          | (go_at_call_of 46 A3; (with_reducible refine (give_any A3 c3 (val xs / val ys) false _ (D3.out.below KD.out) (by omega)).mono ?_); rintro e w5 ⟨A5, c5, rfl, hd, hb⟩; (have L1 := Lib.hid (KD.out.trans (hb.mono KD.out.size))); (have G5 := Lib.hid hd); clear hb hd)
          | (go_at_call_of 46 B3; (with_reducible refine (give_any B3 d3 (val xs % val ys) t2 _ (D4.out.below L1.out) (by omega)).mono ?_); rintro e w6 ⟨A6, c6, rfl, hd, hb⟩; (have L2 := Lib.hid (L1.out.trans (hb.mono L1.out.size))); (have G6 := Lib.hid hd); (have G5' := Lib.hid (G5.out.below hb)); (have KA := Lib.hid (KX.out.trans (L2.out.mono KX.out.size))); (have q0 := row_cell HR0.out KA.out 0); (have q1 := row_cell HR0.out KA.out 1); (have q2 := row_cell HR1.out KA.out 0); (have q3 := row_cell HR1.out KA.out 1); (have p0 := row_frozen HR0.out KA.out 0); (have p1 := row_frozen HR0.out KA.out 1); (have p2 := row_frozen HR1.out KA.out 0); (have p3 := row_frozen HR1.out KA.out 1); (simp only [List.getElem?_toArray, List.getElem?_cons_zero, List.getElem?_cons_succ] at q0 q1 q2 q3); (have HO := Lib.hid (And.intro (off_row (g := w.heap.size + 1 + 1) G5'.out KA.out HR0.out noint2') (And.intro (off_row (g := w.heap.size + 1 + 1 + 1) G5'.out KA.out HR1.out noint2') (And.intro (off_row (g := w.heap.size + 1 + 1) hd KA.out HR0.out noint2') (off_row (g := w.heap.size + 1 + 1 + 1) hd KA.out HR1.out noint2'))))); clear hb hd))
      go_wp2
      refine bodyPost_ret (v := .tuple #[.agg #[.bool (false && decide ((val xs / val ys) ≠ 0)), .slice A5 (digs (val xs / val ys)).length c5], .agg #[.bool (t2 && decide ((val xs % val ys) ≠ 0)), .slice A6 (digs (val xs % val ys)).length c6], .bool true]) (by simp [results, Tryd.results33, go_sem, q0, q1, q2, q3]) rfl ?_
      refine zr2_give (by rw [← E1.out, ← E2.out]; exact (by rw [ET.out]; exact fd_same.1)) (by rw [← E1.out, ← E2.out]; exact (by rw [ET.out]; exact fd_same.2)) ((((G5'.out.set_off HO.out.1 _ _).set_off HO.out.1 _ _).set_off HO.out.2.1 _ _).set_off HO.out.2.1 _ _) ((((G6.out.set_off HO.out.2.2.1 _ _).set_off HO.out.2.2.1 _ _).set_off HO.out.2.2.2 _ _).set_off HO.out.2.2.2 _ _) ?_
      exact (((((HB0.out.trans (KA.out.mono HB0.out.size)).setCell (by simp; omega) _).setCell (by simp; omega) _).setCell (by simp; omega) _).setCell (by simp; omega) _)
    · have HT := Lib.hid ht
      have hn0 : ¬ (t1 = t2) := by intro e; rw [e] at ht; simp at ht
      by_cases hk : val xs % val ys = 0
      · have HK := Lib.hid hk
        clear hk
        have f1 := cell_of_row V _ 1 _ _ _ RV.out.2.2.1
        have f2 := cell_of_row V _ 1 _ _ _ RV.out.2.2.2
        have f3 := cell_of_row V _ 0 _ _ _ RV.out.2.1
        simp only [List.getElem?_toArray, List.getElem?_cons_zero, List.getElem?_cons_succ] at f1 f2 f3
        go_wp2_with fail
        refine (zero_any B3 (digs (val xs % val ys)).length d3 _ true (by rw [HK.out, digs_zero]; rfl)).mono ?_
        rintro e v2 ⟨rfl, hb⟩
        have KZ := Lib.hid hb
        have KX := Lib.hid (KW.out.trans (KZ.out.mono KW.out.size))
        have RX := Lib.hid (And.intro (cells_of RV.out.1 KZ.out) (And.intro (cells_of RV.out.2.1 KZ.out) (And.intro (cells_of RV.out.2.2.1 KZ.out) (cells_of RV.out.2.2.2 KZ.out))))
        clear hb f1 f2 f3
        have x1 := heap_lt RX.out.1
        have x2 := heap_lt RX.out.2.1
        have x3 := heap_lt RX.out.2.2.1
        have x4 := heap_lt RX.out.2.2.2
        have f1 := cell_of_row v2 _ 1 _ _ _ RX.out.2.2.1
        have f2 := cell_of_row v2 _ 1 _ _ _ RX.out.2.2.2
        simp only [List.getElem?_toArray, List.getElem?_cons_zero, List.getElem?_cons_succ] at f1 f2
        go_wp2_with fail
        clear f1 f2
        clear RV
        have f1 := cell_of_row v2 _ 0 _ _ _ RX.out.1
        have f2 := cell_of_row v2 _ 0 _ _ _ RX.out.2.1
        have f3 := cell_of_row v2 _ 1 _ _ _ RX.out.2.2.1
        have f4 := cell_of_row v2 _ 1 _ _ _ RX.out.2.2.2
        simp only [List.getElem?_toArray, List.getElem?_cons_zero, List.getElem?_cons_succ] at f1 f2 f3 f4
        have HS8 := Lib.hid (And.intro f1 (And.intro f2 (And.intro f3 f4)))
        clear f1 f2 f3 f4
        have KD := Lib.hid (below_drew (Below.refl v2.heap.size v2))
        go_region_held3 (fun w' => w'.cell? ⟨v1.heap.size, 0, none⟩ = some (.slice A3 (digs (val xs / val ys)).length c3) ∧ w'.cell? ⟨v1.heap.size + 1, 0, none⟩ = some (.slice B3 (digs (val xs % val ys)).length d3) ∧ w'.cell? ⟨g1, 1, none⟩ = some (.bool t1) ∧ w'.cell? ⟨g2, 1, none⟩ = some (.bool t2))
          (first | with_reducible exact HS8.out | with_reducible exact carry4 KD.out HS8.out x1 x2 x3 x4 | with_reducible exact carry4 L1.out HS8.out x1 x2 x3 x4 | with_reducible exact carry4 L2.out HS8.out x1 x2 x3 x4 | with_reducible exact set4 (set4 (carry4 L2.out HS8.out x1 x2 x3 x4) n1.out.1 n1.out.2.2.1 n1.out.2.2.2.2.1 n1.out.2.2.2.2.2.2.1) n1.out.1 n1.out.2.2.1 n1.out.2.2.2.2.1 n1.out.2.2.2.2.2.2.1 | with_reducible exact set4 (set4 (set4 (set4 (carry4 L2.out HS8.out x1 x2 x3 x4) n1.out.1 n1.out.2.2.1 n1.out.2.2.2.2.1 n1.out.2.2.2.2.2.2.1) n1.out.1 n1.out.2.2.1 n1.out.2.2.2.2.1 n1.out.2.2.2.2.2.2.1) n1.out.2.1 n1.out.2.2.2.1 n1.out.2.2.2.2.2.1 n1.out.2.2.2.2.2.2.2.1) n1.out.2.1 n1.out.2.2.2.1 n1.out.2.2.2.2.2.1 n1.out.2.2.2.2.2.2.2.1)
          (first
            | (go_at_call_of 46 A3; (with_reducible refine (give_any A3 c3 (val xs / val ys) _ _ ((D3.out.below KZ.out).below KD.out) (by omega)).mono ?_); rintro e w5 ⟨A5, c5, rfl, hd, hb⟩; (have L1 := Lib.hid (KD.out.trans (hb.mono KD.out.size))); (have G5 := Lib.hid hd); clear hb hd)
            | (go_at_call_of 46 B3; (with_reducible refine (give_any B3 d3 (val xs % val ys) t2 _ ((D4.out.below KZ.out).below L1.out) (by omega)).mono ?_); rintro e w6 ⟨A6, c6, rfl, hd, hb⟩; (have L2 := Lib.hid (L1.out.trans (hb.mono L1.out.size))); (have G6 := Lib.hid hd); (have G5' := Lib.hid (G5.out.below hb)); (have KA := Lib.hid (KX.out.trans (L2.out.mono KX.out.size))); (have q0 := row_cell HR0.out KA.out 0); (have q1 := row_cell HR0.out KA.out 1); (have q2 := row_cell HR1.out KA.out 0); (have q3 := row_cell HR1.out KA.out 1); (have p0 := row_frozen HR0.out KA.out 0); (have p1 := row_frozen HR0.out KA.out 1); (have p2 := row_frozen HR1.out KA.out 0); (have p3 := row_frozen HR1.out KA.out 1); (simp only [List.getElem?_toArray, List.getElem?_cons_zero, List.getElem?_cons_succ] at q0 q1 q2 q3); (have HO := Lib.hid (And.intro (off_row (g := w.heap.size + 1 + 1) G5'.out KA.out HR0.out noint2') (And.intro (off_row (g := w.heap.size + 1 + 1 + 1) G5'.out KA.out HR1.out noint2') (And.intro (off_row (g := w.heap.size + 1 + 1) hd KA.out HR0.out noint2') (off_row (g := w.heap.size + 1 + 1 + 1) hd KA.out HR1.out noint2'))))); clear hb hd))
        go_wp2
        refine bodyPost_ret (v := .tuple #[.agg #[.bool (true && decide ((val xs / val ys) ≠ 0)), .slice A5 (digs (val xs / val ys)).length c5], .agg #[.bool (t2 && decide ((val xs % val ys) ≠ 0)), .slice A6 (digs (val xs % val ys)).length c6], .bool true]) (by simp [results, Tryd.results33, go_sem, q0, q1, q2, q3, hn0]) rfl ?_
        refine zr2_give (by rw [← E1.out, ← E2.out]; exact (fd_exact HT.out HY.out HK.out).1) (by rw [← E1.out, ← E2.out]; exact (fd_exact HT.out HY.out HK.out).2) ((((G5'.out.set_off HO.out.1 _ _).set_off HO.out.1 _ _).set_off HO.out.2.1 _ _).set_off HO.out.2.1 _ _) ((((G6.out.set_off HO.out.2.2.1 _ _).set_off HO.out.2.2.1 _ _).set_off HO.out.2.2.2 _ _).set_off HO.out.2.2.2 _ _) ?_
        exact (((((HB0.out.trans (KA.out.mono HB0.out.size)).setCell (by simp; omega) _).setCell (by simp; omega) _).setCell (by simp; omega) _).setCell (by simp; omega) _)
      · have HK := Lib.hid hk
        have hkn : (digs (val xs % val ys)).length ≠ 0 := fun e => HK.out (digs_nil.1 e)
        have HKN := Lib.hid hkn
        clear hk hkn
        have f1 := cell_of_row V _ 1 _ _ _ RV.out.2.2.1
        have f2 := cell_of_row V _ 1 _ _ _ RV.out.2.2.2
        have f3 := cell_of_row V _ 0 _ _ _ RV.out.2.1
        simp only [List.getElem?_toArray, List.getElem?_cons_zero, List.getElem?_cons_succ] at f1 f2 f3
        go_wp2_with fail
        refine (zero_any B3 (digs (val xs % val ys)).length d3 _ false (len_ne HKN.out)).mono ?_
        rintro e v2 ⟨rfl, hb⟩
        have KZ := Lib.hid hb
        have KX := Lib.hid (KW.out.trans (KZ.out.mono KW.out.size))
        have RX := Lib.hid (And.intro (cells_of RV.out.1 KZ.out) (And.intro (cells_of RV.out.2.1 KZ.out) (And.intro (cells_of RV.out.2.2.1 KZ.out) (cells_of RV.out.2.2.2 KZ.out))))
        clear hb f1 f2 f3
        have x1 := heap_lt RX.out.1
        have x2 := heap_lt RX.out.2.1
        have x3 := heap_lt RX.out.2.2.1
        have x4 := heap_lt RX.out.2.2.2
        have f1 := cell_of_row v2 _ 1 _ _ _ RX.out.2.2.1
        have f2 := cell_of_row v2 _ 1 _ _ _ RX.out.2.2.2
        have f3 := cell_of_row v2 _ 0 _ _ _ RX.out.2.2.2
        simp only [List.getElem?_toArray, List.getElem?_cons_zero, List.getElem?_cons_succ] at f1 f2 f3
        go_wp2_with fail
        clear f1 f2 f3
        have E3 := Lib.hid (D3.out.below KZ.out)
        have E4 := Lib.hid (D4.out.below KZ.out)
        have EY := Lib.hid (DY.out.below KZ.out)
        have MA := Lib.hid (fun U h => more_any A3 c3 (val xs / val ys) U h (by omega))
        have MB := Lib.hid (fun U h h' => without_any A2 B3 c2 d3 (val ys) (val xs % val ys) U h h' (by omega) (by omega) (Nat.le_of_lt (Nat.mod_lt (val xs) (Nat.pos_of_ne_zero HY.out))))
        refine wp_operands (W := v2) rfl 6 [46, 47, 48, 49, 50, 51] (fun i u x => match i with | 0 => u = .agg #[.slice A3 (digs (val xs / val ys)).length c3] | 1 => ∃ A' c', u = .agg #[.slice A' (digs (val xs / val ys + 1)).length c'] ∧ Dg x A' c' (digs (val xs / val ys + 1)) | 2 => u = .pointer (some ⟨g2, 0, none⟩) | 3 => u = .agg #[.slice A2 (digs (val ys)).length c2] | 4 => u = .agg #[.slice B3 (digs (val xs % val ys)).length d3] | 5 => ∃ A' c', u = .agg #[.slice A' (digs (val ys - val xs % val ys)).length c'] ∧ Dg x A' c' (digs (val ys - val xs % val ys)) | _ => True) (fun _ => false)
          (by decide) rfl (by kernel_rfl) (by kernel_rfl) (by decide) (by kernel_rfl) ?_ (fun _ _ _ h => by cases h) ?_ ?_
        · intro i u x x' hi hR hb
          have hi' : i = 0 ∨ i = 1 ∨ i = 2 ∨ i = 3 ∨ i = 4 ∨ i = 5 := by omega
          rcases hi' with rfl | rfl | rfl | rfl | rfl | rfl
          · exact hR
          · obtain ⟨A', c', e, hd⟩ := hR; exact ⟨A', c', e, hd.below hb⟩
          · exact hR
          · exact hR
          · exact hR
          · obtain ⟨A', c', e, hd⟩ := hR; exact ⟨A', c', e, hd.below hb⟩
        · intro i a x K hi hF hb hw hK
          have hi' : i = 0 ∨ i = 1 ∨ i = 2 ∨ i = 3 ∨ i = 4 ∨ i = 5 := by omega
          rcases hi' with rfl | rfl | rfl | rfl | rfl | rfl
          · simp only [wpOp, List.getElem?_toArray, List.getElem?_cons_zero, Region.wanted, if_true]
            refine Or.inl ?_
            have e : a.eval (.tmp 11) = .pointer (some ⟨v1.heap.size, 0, none⟩) := hF.2.2 11 (by decide)
            have f := row_cell RX.out.1 hb 0
            simp only [List.getElem?_toArray, List.getElem?_cons_zero] at f
            clear hw hF
            simp only [Oper.wp, execOp]
            rw [e]
            go_simp
            exact hK _ x rfl (Below.refl _ _) (fun h => by cases h)
          · simp only [wpOp, List.getElem?_toArray, List.getElem?_cons_succ, List.getElem?_cons_zero, Region.wanted, if_true]
            refine Or.inl ?_
            have e : a.tmps.getD 46 undef = .agg #[.slice A3 (digs (val xs / val ys)).length c3] := hw 0 (by kernel_rfl)
            clear hw hF
            simp only [Oper.wp, execOp]
            go_simp
            refine (MA.out x (E3.out.below hb)).mono ?_
            rintro e y ⟨A', c', rfl, hd, hbb⟩
            exact hK _ y ⟨A', c', rfl, hd⟩ hbb (fun h => by cases h)
          · simp only [wpOp, List.getElem?_toArray, List.getElem?_cons_succ, List.getElem?_cons_zero, Region.wanted, if_true]
            refine Or.inl ?_
            have e : a.eval (.tmp 8) = .pointer (some ⟨g2, 0, none⟩) := hF.2.2 8 (by decide)
            clear hw hF
            simp only [Oper.wp, execOp]
            rw [e]
            go_simp
            exact hK _ x rfl (Below.refl _ _) (fun h => by cases h)
          · simp only [wpOp, List.getElem?_toArray, List.getElem?_cons_succ, List.getElem?_cons_zero, Region.wanted, if_true]
            refine Or.inl ?_
            have e : a.eval (.tmp 48) = .pointer (some ⟨g2, 0, none⟩) := hw 2 (by kernel_rfl)
            have f := row_cell RX.out.2.2.2 hb 0
            simp only [List.getElem?_toArray, List.getElem?_cons_zero] at f
            clear hw hF
            simp only [Oper.wp, execOp]
            rw [e]
            go_simp
            exact hK _ x rfl (Below.refl _ _) (fun h => by cases h)
          · simp only [wpOp, List.getElem?_toArray, List.getElem?_cons_succ, List.getElem?_cons_zero, Region.wanted, if_true]
            refine Or.inl ?_
            have e : a.eval (.tmp 12) = .pointer (some ⟨v1.heap.size + 1, 0, none⟩) := hF.2.2 12 (by decide)
            have f := row_cell RX.out.2.1 hb 0
            simp only [List.getElem?_toArray, List.getElem?_cons_zero] at f
            clear hw hF
            simp only [Oper.wp, execOp]
            rw [e]
            go_simp
            exact hK _ x rfl (Below.refl _ _) (fun h => by cases h)
          · simp only [wpOp, List.getElem?_toArray, List.getElem?_cons_succ, List.getElem?_cons_zero, Region.wanted, if_true]
            refine Or.inl ?_
            have e : a.tmps.getD 49 undef = .agg #[.slice A2 (digs (val ys)).length c2] := hw 3 (by kernel_rfl)
            have e' : a.tmps.getD 50 undef = .agg #[.slice B3 (digs (val xs % val ys)).length d3] := hw 4 (by kernel_rfl)
            clear hw hF
            simp only [Oper.wp, execOp]
            go_simp
            refine (MB.out x (EY.out.below hb) (E4.out.below hb)).mono ?_
            rintro e y ⟨A', c', rfl, hd, hbb⟩
            exact hK _ y ⟨A', c', rfl, hd⟩ hbb (fun h => by cases h)
        · intro a x hF hb hR _
          obtain ⟨A7, c7, e7, hd7⟩ := hR 1 (by decide)
          obtain ⟨A8, c8, e8, hd8⟩ := hR 5 (by decide)
          have e0 : a.tmps.getD 46 undef = .agg #[.slice A3 (digs (val xs / val ys)).length c3] := hR 0 (by decide)
          have e1 : a.tmps.getD 47 undef = .agg #[.slice A7 (digs (val xs / val ys + 1)).length c7] := e7
          have e2 : a.tmps.getD 48 undef = .pointer (some ⟨g2, 0, none⟩) := hR 2 (by decide)
          have e3 : a.tmps.getD 49 undef = .agg #[.slice A2 (digs (val ys)).length c2] := hR 3 (by decide)
          have e4 : a.tmps.getD 50 undef = .agg #[.slice B3 (digs (val xs % val ys)).length d3] := hR 4 (by decide)
          have e5 : a.tmps.getD 51 undef = .agg #[.slice A8 (digs (val ys - val xs % val ys)).length c8] := e8
          rw [hF.fold (by kernel_rfl)]
          simp only [List.foldl_cons, List.foldl_nil, e0, e1, e2, e3, e4, e5]
          simp only [Act.put, List.setIfInBounds_toArray, List.set_cons_zero, List.set_cons_succ]
          change wpOps _ _ _ [6, 7] _ _
          simp only [wpOps_cons]
          clear e0 e1 e2 e3 e4 e5 e7 e8 hR hF
          have rx0 := cells_of RX.out.1 hb
          have rx1 := cells_of RX.out.2.1 hb
          have w0 := cell_of_row x _ 0 _ _ _ rx0
          have w1 := cell_of_row x _ 0 _ _ _ rx1
          simp only [List.getElem?_toArray, List.getElem?_cons_zero] at w0 w1
          have o0 := frozen_of_row x _ 0 _ _ rx0
          have o1 := frozen_of_row x _ 0 _ _ rx1
          have HH0 := Lib.hid (And.intro rx0 rx1)
          have HHB := Lib.hid hb
          have HD7 := Lib.hid (And.intro hd7 hd8)
          clear rx0 rx1 hb hd7 hd8
          simp only [wpOp, List.getElem?_toArray, List.getElem?_cons_succ, List.getElem?_cons_zero, Region.wanted, if_true]
          refine Or.inl ?_
          simp only [Oper.wp, execOp]
          go_simp
          rw [wpOps_cons]
          simp only [wpOp, List.getElem?_toArray, List.getElem?_cons_succ, List.getElem?_cons_zero, Region.wanted, if_true]
          refine Or.inl ?_
          simp only [Oper.wp, execOp]
          go_simp
          try simp only [wpOps]
          obtain ⟨V3, hV3⟩ : ∃ V3 : World, V3 = (x.setCell ⟨v1.heap.size, 0, none⟩ (.slice A7 (digs (val xs / val ys + 1)).length c7)).setCell ⟨v1.heap.size + 1, 0, none⟩ (.slice A8 (digs (val ys - val xs % val ys)).length c8) := ⟨_, rfl⟩
          rw [← hV3]
          have r0 := heap_setCell_same x _ 0 _ _ (.slice A7 (digs (val xs / val ys + 1)).length c7) HH0.out.1
          have r1p := (heap_setCell_other x ⟨v1.heap.size, 0, none⟩ (v1.heap.size + 1) (.slice A7 (digs (val xs / val ys + 1)).length c7) (by simp)).trans HH0.out.2
          have gg1 : g1 < v1.heap.size := by omega
          have gg2 : g2 < v1.heap.size := by omega
          have RY := Lib.hid (show V3.heap[v1.heap.size]? = some (.cells #[.slice A7 (digs (val xs / val ys + 1)).length c7] 57 (0, 0)) ∧ V3.heap[v1.heap.size + 1]? = some (.cells #[.slice A8 (digs (val ys - val xs % val ys)).length c8] 57 (0, 0)) ∧ V3.heap[g1]? = some (.cells #[.slice A1 (digs (val xs)).length c1, .bool t1] 59 (0, 0)) ∧ V3.heap[g2]? = some (.cells #[.slice A2 (digs (val ys)).length c2, .bool t2] 59 (0, 0)) by
            rw [hV3]
            exact ⟨(heap_setCell_other _ _ _ _ (by simp)).trans r0, heap_setCell_same _ _ 0 _ _ _ r1p, (heap_setCell_other _ _ _ _ (by simp; omega)).trans ((heap_setCell_other _ _ _ _ (by simp; omega)).trans (cells_of RX.out.2.2.1 HHB.out)), (heap_setCell_other _ _ _ _ (by simp; omega)).trans ((heap_setCell_other _ _ _ _ (by simp; omega)).trans (cells_of RX.out.2.2.2 HHB.out))⟩)
          have KPT : Kept x V3 := by rw [hV3]; exact (((Only.refl _ x).setCell 0 _).kept HH0.out.1 noint1).trans (((Only.refl _ _).setCell 0 _).kept r1p noint1)
          have F7 := Lib.hid (HD7.out.1.kept KPT)
          have F8 := Lib.hid (HD7.out.2.kept KPT)
          have KX3 := Lib.hid (show Below W.heap.size W V3 by rw [hV3]; exact ((KX.out.trans (HHB.out.mono KX.out.size)).setCell (by have := KB.out.size; simp; omega) _).setCell (by have := KB.out.size; simp; omega) _)
          have b3 := digs_add_len (val xs / val ys) 1
          have b4 := digs_sub_len (val ys) (val xs % val ys)
          have b5 : (digs 1).length ≤ 1 := by rw [digs_one (by omega) (by omega)]; simp
          clear hV3 r0 r1p KPT HD7 w0 w1 o0 o1 x1 x2 x3 x4 RX
          have x1 := heap_lt RY.out.1
          have x2 := heap_lt RY.out.2.1
          have x3 := heap_lt RY.out.2.2.1
          have x4 := heap_lt RY.out.2.2.2
          have f1 := cell_of_row V3 _ 1 _ _ _ RY.out.2.2.1
          have f2 := cell_of_row V3 _ 1 _ _ _ RY.out.2.2.2
          simp only [List.getElem?_toArray, List.getElem?_cons_zero, List.getElem?_cons_succ] at f1 f2
          go_wp2_with fail
          clear f1 f2
          clear RV
          have f1 := cell_of_row V3 _ 0 _ _ _ RY.out.1
          have f2 := cell_of_row V3 _ 0 _ _ _ RY.out.2.1
          have f3 := cell_of_row V3 _ 1 _ _ _ RY.out.2.2.1
          have f4 := cell_of_row V3 _ 1 _ _ _ RY.out.2.2.2
          simp only [List.getElem?_toArray, List.getElem?_cons_zero, List.getElem?_cons_succ] at f1 f2 f3 f4
          have HS8 := Lib.hid (And.intro f1 (And.intro f2 (And.intro f3 f4)))
          clear f1 f2 f3 f4
          have KD := Lib.hid (below_drew (Below.refl V3.heap.size V3))
          go_region_held3 (fun w' => w'.cell? ⟨v1.heap.size, 0, none⟩ = some (.slice A7 (digs (val xs / val ys + 1)).length c7) ∧ w'.cell? ⟨v1.heap.size + 1, 0, none⟩ = some (.slice A8 (digs (val ys - val xs % val ys)).length c8) ∧ w'.cell? ⟨g1, 1, none⟩ = some (.bool t1) ∧ w'.cell? ⟨g2, 1, none⟩ = some (.bool t2))
            (first | with_reducible exact HS8.out | with_reducible exact carry4 KD.out HS8.out x1 x2 x3 x4 | with_reducible exact carry4 L1.out HS8.out x1 x2 x3 x4 | with_reducible exact carry4 L2.out HS8.out x1 x2 x3 x4 | with_reducible exact set4 (set4 (carry4 L2.out HS8.out x1 x2 x3 x4) n1.out.1 n1.out.2.2.1 n1.out.2.2.2.2.1 n1.out.2.2.2.2.2.2.1) n1.out.1 n1.out.2.2.1 n1.out.2.2.2.2.1 n1.out.2.2.2.2.2.2.1 | with_reducible exact set4 (set4 (set4 (set4 (carry4 L2.out HS8.out x1 x2 x3 x4) n1.out.1 n1.out.2.2.1 n1.out.2.2.2.2.1 n1.out.2.2.2.2.2.2.1) n1.out.1 n1.out.2.2.1 n1.out.2.2.2.2.1 n1.out.2.2.2.2.2.2.1) n1.out.2.1 n1.out.2.2.2.1 n1.out.2.2.2.2.2.1 n1.out.2.2.2.2.2.2.2.1) n1.out.2.1 n1.out.2.2.2.1 n1.out.2.2.2.2.2.1 n1.out.2.2.2.2.2.2.2.1)
            (first
              | (go_at_call_of 46 A7; (with_reducible refine (give_any A7 c7 (val xs / val ys + 1) _ _ (F7.out.below KD.out) (by omega)).mono ?_); rintro e w5 ⟨A5, c5, rfl, hd, hb⟩; (have L1 := Lib.hid (KD.out.trans (hb.mono KD.out.size))); (have G5 := Lib.hid hd); clear hb hd)
              | (go_at_call_of 46 A8; (with_reducible refine (give_any A8 c8 (val ys - val xs % val ys) t2 _ (F8.out.below L1.out) (by omega)).mono ?_); rintro e w6 ⟨A6, c6, rfl, hd, hb⟩; (have L2 := Lib.hid (L1.out.trans (hb.mono L1.out.size))); (have G6 := Lib.hid hd); (have G5' := Lib.hid (G5.out.below hb)); (have KA := Lib.hid (KX3.out.trans (L2.out.mono KX3.out.size))); (have q0 := row_cell HR0.out KA.out 0); (have q1 := row_cell HR0.out KA.out 1); (have q2 := row_cell HR1.out KA.out 0); (have q3 := row_cell HR1.out KA.out 1); (have p0 := row_frozen HR0.out KA.out 0); (have p1 := row_frozen HR0.out KA.out 1); (have p2 := row_frozen HR1.out KA.out 0); (have p3 := row_frozen HR1.out KA.out 1); (simp only [List.getElem?_toArray, List.getElem?_cons_zero, List.getElem?_cons_succ] at q0 q1 q2 q3); (have HO := Lib.hid (And.intro (off_row (g := w.heap.size + 1 + 1) G5'.out KA.out HR0.out noint2') (And.intro (off_row (g := w.heap.size + 1 + 1 + 1) G5'.out KA.out HR1.out noint2') (And.intro (off_row (g := w.heap.size + 1 + 1) hd KA.out HR0.out noint2') (off_row (g := w.heap.size + 1 + 1 + 1) hd KA.out HR1.out noint2'))))); clear hb hd))
          go_wp2
          refine bodyPost_ret (v := .tuple #[.agg #[.bool (true && decide ((val xs / val ys + 1) ≠ 0)), .slice A5 (digs (val xs / val ys + 1)).length c5], .agg #[.bool (t2 && decide ((val ys - val xs % val ys) ≠ 0)), .slice A6 (digs (val ys - val xs % val ys)).length c6], .bool true]) (by simp [results, Tryd.results33, go_sem, q0, q1, q2, q3, hn0]) rfl ?_
          refine zr2_give (by rw [← E1.out, ← E2.out]; exact (fd_more HT.out HY.out HK.out).1) (by rw [← E1.out, ← E2.out]; exact (fd_more HT.out HY.out HK.out).2) ((((G5'.out.set_off HO.out.1 _ _).set_off HO.out.1 _ _).set_off HO.out.2.1 _ _).set_off HO.out.2.1 _ _) ((((G6.out.set_off HO.out.2.2.1 _ _).set_off HO.out.2.2.1 _ _).set_off HO.out.2.2.2 _ _).set_off HO.out.2.2.2 _ _) ?_
          exact (((((HB0.out.trans (KA.out.mono HB0.out.size)).setCell (by simp; omega) _).setCell (by simp; omega) _).setCell (by simp; omega) _).setCell (by simp; omega) _)
end Go.Proofs.YthgkdpfkaobgoaaDoor
end

section
/-
  zint.Small.
-/
namespace Go.Proofs.YthgkdpfkaobgoaaDoor
open Go.RowKit
theorem ret_ib {a b : Int} {p q : Bool} (h : a = b) (h' : p = q) : Ending.returned (.tuple #[.int .i64 a, .bool p]) = .returned (.tuple #[.int .i64 b, .bool q]) := by rw [h, h']
theorem wrap_i64_eq (x : Int) (h : -9223372036854775808 ≤ x) (h' : x ≤ 9223372036854775807) : IntKind.i64.wrap x = x := IntWalk.i64_in _ ⟨h, h'⟩
theorem turn_u64 (x : Nat) (h : 0 < x) (h' : x ≤ 9223372036854775808) : wrap64 (IntKind.u64.wrap (-(x : Int))) = -(x : Int) := by
  rw [wrap_u64_eq]; unfold wrap64; omega
set_option maxHeartbeats 2000000 in
set_option maxRecDepth 100000 in
theorem zsmall_neg (A : Option Addr) (c : Nat) (s : Bool) (xs : List Nat) (w : World) (h : Dg w A c xs) (hl : xs.length ≤ 1000000) (hz : s = true) (h0 : 0 < val xs) (h1 : val xs ≤ 9223372036854775808) :
    Calls Tryd.prog 27 #[.agg #[.bool s, .slice A xs.length c]] w fun e w' => e = .returned (.tuple #[.int .i64 (-(val xs : Int)), .bool true]) ∧ Below w.heap.size w w' := by
  have l1 := digs_len_le h.2.1
  obtain ⟨t1, ht1⟩ : ∃ t, (s && decide (0 < val xs)) = t := ⟨_, rfl⟩
  have TA := Lib.hid (fun W h => take_any A c s xs W h (by omega))
  have HC := Lib.hid (fun A1 c1 W h1 => small_any A1 c1 (digs (val xs)) W h1 (by omega))
  simp only [val_digs] at HC
  have e1 : (s && decide (0 < val xs)) = true := by rw [hz, decide_eq_true h0]; rfl
  rw [e1] at ht1
  rw [e1] at TA
  have hs : small? (val xs) = val xs := by unfold small?; rw [if_pos (by omega)]
  have hd : decide (val xs < 18446744073709551616) = true := decide_eq_true (by omega)
  rw [hs, hd] at HC
  have dd : decide (((val xs : Nat) : Int) ≤ 9223372036854775808) = true := by simp; omega
  have HT := Lib.hid (turn_u64 (val xs) h0 h1)
  clear hs hd e1 h0 h1 hz
  clear ht1
  generalize val xs = x at *
  go_enter Tryd.func27, Tryd.ntmps27
  go_wp2_with fail
  refine (TA.out _ (h.below (below1 _ _))).mono ?_
  rintro e w1 ⟨A1, c1, rfl, hd, hb⟩
  have K1 := Lib.hid hb
  have G1 := Lib.hid hd
  obtain ⟨hc1, hf1⟩ := bcell hb
  clear hb hd h
  go_wp2_with fail
  refine (HC.out A1 c1 _ (G1.out.below (below1 _ _))).mono ?_
  rintro e w2 ⟨rfl, nn, rfl⟩
  go_wp2
  go_ret2
  exact ⟨ret_ib HT.out rfl, below_drewN (((below1 w _).trans (K1.out.mono (by simp))).alloc (by have := K1.out.size; simp at this; omega) _) _⟩
set_option maxHeartbeats 2000000 in
set_option maxRecDepth 100000 in
theorem zsmall_pos (A : Option Addr) (c : Nat) (s : Bool) (xs : List Nat) (w : World) (h : Dg w A c xs) (hl : xs.length ≤ 1000000) (hz : (s && decide (0 < val xs)) = false) (h1 : val xs ≤ 9223372036854775807) :
    Calls Tryd.prog 27 #[.agg #[.bool s, .slice A xs.length c]] w fun e w' => e = .returned (.tuple #[.int .i64 ((val xs : Nat) : Int), .bool true]) ∧ Below w.heap.size w w' := by
  have l1 := digs_len_le h.2.1
  obtain ⟨t1, ht1⟩ : ∃ t, (s && decide (0 < val xs)) = t := ⟨_, rfl⟩
  have TA := Lib.hid (fun W h => take_any A c s xs W h (by omega))
  have HC := Lib.hid (fun A1 c1 W h1 => small_any A1 c1 (digs (val xs)) W h1 (by omega))
  simp only [val_digs] at HC
  rw [hz] at ht1
  rw [hz] at TA
  have hs : small? (val xs) = val xs := by unfold small?; rw [if_pos (by omega)]
  have hd : decide (val xs < 18446744073709551616) = true := decide_eq_true (by omega)
  rw [hs, hd] at HC
  have dd : decide (((val xs : Nat) : Int) ≤ 9223372036854775807) = true := by simp; omega
  have HT := Lib.hid (wrap_i64_eq (val xs) (by omega) (by omega))
  clear hs hd hz
  clear ht1
  generalize val xs = x at *
  go_enter Tryd.func27, Tryd.ntmps27
  go_wp2_with fail
  refine (TA.out _ (h.below (below1 _ _))).mono ?_
  rintro e w1 ⟨A1, c1, rfl, hd, hb⟩
  have K1 := Lib.hid hb
  have G1 := Lib.hid hd
  obtain ⟨hc1, hf1⟩ := bcell hb
  clear hb hd h
  go_wp2_with fail
  refine (HC.out A1 c1 _ (G1.out.below (below1 _ _))).mono ?_
  rintro e w2 ⟨rfl, nn, rfl⟩
  go_wp2
  go_ret2
  exact ⟨rfl, below_drewN (((below1 w _).trans (K1.out.mono (by simp))).alloc (by have := K1.out.size; simp at this; omega) _) _⟩
set_option maxHeartbeats 2000000 in
set_option maxRecDepth 100000 in
theorem zsmall_far (A : Option Addr) (c : Nat) (s : Bool) (xs : List Nat) (w : World) (h : Dg w A c xs) (hl : xs.length ≤ 1000000) (h1 : 18446744073709551616 ≤ val xs) :
    Calls Tryd.prog 27 #[.agg #[.bool s, .slice A xs.length c]] w fun e w' => e = .returned (.tuple #[.int .i64 0, .bool false]) ∧ Below w.heap.size w w' := by
  have l1 := digs_len_le h.2.1
  obtain ⟨t1, ht1⟩ : ∃ t, (s && decide (0 < val xs)) = t := ⟨_, rfl⟩
  have TA := Lib.hid (fun W h => take_any A c s xs W h (by omega))
  have HC := Lib.hid (fun A1 c1 W h1 => small_any A1 c1 (digs (val xs)) W h1 (by omega))
  simp only [val_digs] at HC
  rw [ht1] at TA
  have hd : decide (val xs < 18446744073709551616) = false := decide_eq_false (by omega)
  rw [hd] at HC
  clear hd
  clear ht1
  generalize val xs = x at *
  go_enter Tryd.func27, Tryd.ntmps27
  go_wp2_with fail
  refine (TA.out _ (h.below (below1 _ _))).mono ?_
  rintro e w1 ⟨A1, c1, rfl, hd, hb⟩
  have K1 := Lib.hid hb
  have G1 := Lib.hid hd
  obtain ⟨hc1, hf1⟩ := bcell hb
  clear hb hd h
  go_wp2_with fail
  refine (HC.out A1 c1 _ (G1.out.below (below1 _ _))).mono ?_
  rintro e w2 ⟨rfl, nn, rfl⟩
  go_wp2
  go_ret2
  exact ⟨rfl, below_drewN (((below1 w _).trans (K1.out.mono (by simp))).alloc (by have := K1.out.size; simp at this; omega) _) _⟩
set_option maxHeartbeats 2000000 in
set_option maxRecDepth 100000 in
theorem zsmall_negfar (A : Option Addr) (c : Nat) (s : Bool) (xs : List Nat) (w : World) (h : Dg w A c xs) (hl : xs.length ≤ 1000000) (hz : s = true) (h0 : 9223372036854775808 < val xs) (h1 : val xs < 18446744073709551616) :
    Calls Tryd.prog 27 #[.agg #[.bool s, .slice A xs.length c]] w fun e w' => e = .returned (.tuple #[.int .i64 0, .bool false]) ∧ Below w.heap.size w w' := by
  have l1 := digs_len_le h.2.1
  obtain ⟨t1, ht1⟩ : ∃ t, (s && decide (0 < val xs)) = t := ⟨_, rfl⟩
  have TA := Lib.hid (fun W h => take_any A c s xs W h (by omega))
  have HC := Lib.hid (fun A1 c1 W h1 => small_any A1 c1 (digs (val xs)) W h1 (by omega))
  simp only [val_digs] at HC
  have e1 : (s && decide (0 < val xs)) = true := by rw [hz, decide_eq_true (by omega)]; rfl
  rw [e1] at ht1
  rw [e1] at TA
  have hs : small? (val xs) = val xs := by unfold small?; rw [if_pos (by omega)]
  have hd : decide (val xs < 18446744073709551616) = true := decide_eq_true (by omega)
  rw [hs, hd] at HC
  have dd : decide (((val xs : Nat) : Int) ≤ 9223372036854775808) = false := by simp; omega
  clear hs hd e1 h0 h1 hz
  clear ht1
  generalize val xs = x at *
  go_enter Tryd.func27, Tryd.ntmps27
  go_wp2_with fail
  refine (TA.out _ (h.below (below1 _ _))).mono ?_
  rintro e w1 ⟨A1, c1, rfl, hd, hb⟩
  have K1 := Lib.hid hb
  have G1 := Lib.hid hd
  obtain ⟨hc1, hf1⟩ := bcell hb
  clear hb hd h
  go_wp2_with fail
  refine (HC.out A1 c1 _ (G1.out.below (below1 _ _))).mono ?_
  rintro e w2 ⟨rfl, nn, rfl⟩
  go_wp2
  go_ret2
  exact ⟨rfl, below_drewN (((below1 w _).trans (K1.out.mono (by simp))).alloc (by have := K1.out.size; simp at this; omega) _) _⟩
set_option maxHeartbeats 2000000 in
set_option maxRecDepth 100000 in
theorem zsmall_posfar (A : Option Addr) (c : Nat) (s : Bool) (xs : List Nat) (w : World) (h : Dg w A c xs) (hl : xs.length ≤ 1000000) (hz : (s && decide (0 < val xs)) = false) (h0 : 9223372036854775807 < val xs) (h1 : val xs < 18446744073709551616) :
    Calls Tryd.prog 27 #[.agg #[.bool s, .slice A xs.length c]] w fun e w' => e = .returned (.tuple #[.int .i64 0, .bool false]) ∧ Below w.heap.size w w' := by
  have l1 := digs_len_le h.2.1
  obtain ⟨t1, ht1⟩ : ∃ t, (s && decide (0 < val xs)) = t := ⟨_, rfl⟩
  have TA := Lib.hid (fun W h => take_any A c s xs W h (by omega))
  have HC := Lib.hid (fun A1 c1 W h1 => small_any A1 c1 (digs (val xs)) W h1 (by omega))
  simp only [val_digs] at HC
  rw [hz] at ht1
  rw [hz] at TA
  have hs : small? (val xs) = val xs := by unfold small?; rw [if_pos (by omega)]
  have hd : decide (val xs < 18446744073709551616) = true := decide_eq_true (by omega)
  rw [hs, hd] at HC
  have dd : decide (((val xs : Nat) : Int) ≤ 9223372036854775807) = false := by simp; omega
  clear hs hd hz
  clear ht1
  generalize val xs = x at *
  go_enter Tryd.func27, Tryd.ntmps27
  go_wp2_with fail
  refine (TA.out _ (h.below (below1 _ _))).mono ?_
  rintro e w1 ⟨A1, c1, rfl, hd, hb⟩
  have K1 := Lib.hid hb
  have G1 := Lib.hid hd
  obtain ⟨hc1, hf1⟩ := bcell hb
  clear hb hd h
  go_wp2_with fail
  refine (HC.out A1 c1 _ (G1.out.below (below1 _ _))).mono ?_
  rintro e w2 ⟨rfl, nn, rfl⟩
  go_wp2
  go_ret2
  exact ⟨rfl, below_drewN (((below1 w _).trans (K1.out.mono (by simp))).alloc (by have := K1.out.size; simp at this; omega) _) _⟩
/-- What Small answers. -/
def smallz (z : Int) : Int := if -9223372036854775808 ≤ z ∧ z ≤ 9223372036854775807 then z else 0
def smallb (z : Int) : Bool := decide (-9223372036854775808 ≤ z ∧ z ≤ 9223372036854775807)
theorem zsmall_any (A : Option Addr) (c : Nat) (s : Bool) (xs : List Nat) (w : World) (h : Dg w A c xs) (hl : xs.length ≤ 1000000) (q : Int) (ok : Bool) (hq : smallz (sg s (val xs)) = q) (hok : smallb (sg s (val xs)) = ok) :
    Calls Tryd.prog 27 #[.agg #[.bool s, .slice A xs.length c]] w fun e w' => e = .returned (.tuple #[.int .i64 q, .bool ok]) ∧ Below w.heap.size w w' := by
  subst hq hok
  rcases Nat.lt_or_ge (val xs) 18446744073709551616 with h1 | h1
  · cases ht : (s && decide (0 < val xs))
    · have e : sg s (val xs) = (val xs : Int) := by
        rw [← sg_take, ht]; rfl
      rw [e]
      rcases Nat.lt_or_ge 9223372036854775807 (val xs) with h2 | h2
      · refine (zsmall_posfar A c s xs w h hl ht h2 h1).mono fun e w' ⟨he, hb⟩ => ⟨he.trans ?_, hb⟩
        exact ret_ib (by unfold smallz; rw [if_neg (by omega)]) (by unfold smallb; exact (decide_eq_false (by omega)).symm)
      · refine (zsmall_pos A c s xs w h hl ht h2).mono fun e w' ⟨he, hb⟩ => ⟨he.trans ?_, hb⟩
        exact ret_ib (by unfold smallz; rw [if_pos (by omega)]) (by unfold smallb; exact (decide_eq_true (by omega)).symm)
    · have e : sg s (val xs) = -(val xs : Int) := by
        rw [← sg_take, ht]; rfl
      simp only [Bool.and_eq_true, decide_eq_true_eq] at ht
      rw [e]
      rcases Nat.lt_or_ge 9223372036854775808 (val xs) with h2 | h2
      · refine (zsmall_negfar A c s xs w h hl ht.1 h2 h1).mono fun e w' ⟨he, hb⟩ => ⟨he.trans ?_, hb⟩
        exact ret_ib (by unfold smallz; rw [if_neg (by omega)]) (by unfold smallb; exact (decide_eq_false (by omega)).symm)
      · refine (zsmall_neg A c s xs w h hl ht.1 ht.2 h2).mono fun e w' ⟨he, hb⟩ => ⟨he.trans ?_, hb⟩
        exact ret_ib (by unfold smallz; rw [if_pos (by omega)]) (by unfold smallb; exact (decide_eq_true (by omega)).symm)
  · have e : sg s (val xs) = (val xs : Int) ∨ sg s (val xs) = -(val xs : Int) := by unfold sg; cases s <;> simp
    refine (zsmall_far A c s xs w h hl h1).mono fun e' w' ⟨he, hb⟩ => ⟨he.trans ?_, hb⟩
    exact ret_ib (by unfold smallz; rw [if_neg (by omega)]) (by unfold smallb; exact (decide_eq_false (by omega)).symm)
end Go.Proofs.YthgkdpfkaobgoaaDoor
end

section
/-
  The reference's own text (astrolaberef01): at, Trim.
-/
namespace Go.Proofs.YthgkdpfkaobgoaaDoor
open Go.RowKit
set_option maxHeartbeats 400000 in
set_option maxRecDepth 100000 in
theorem rat_any (A : Option Addr) (c : Nat) (xs : List Nat) (i : Nat) (w : World) (h : Dg w A c xs) (hi : i ≤ 9223372036854775807) :
    Calls Tryd.prog 75 #[.slice A xs.length c, .int .i64 i] w fun e w' => e = .returned (.int .u64 (xs[i]?.getD 0 : Nat)) ∧ w = w' := by
  by_cases h1 : xs.length ≤ i
  · have d0 : decide (xs.length ≤ i) = true := by simp [h1]
    have HF : Hid ((0 : Int) = ((xs[i]?.getD 0 : Nat) : Int)) := by rw [List.getElem?_eq_none h1]; rfl
    clear h1
    go_enter Tryd.func75, Tryd.ntmps75
    go_wp2
    go_ret
    exact ⟨ret_i HF.out, rfl⟩
  · have d0 : decide (xs.length ≤ i) = false := by simp; omega
    obtain ⟨b, off, hA, hb, hcx⟩ := h.2.2 (by omega)
    have hx := hcx i (by omega)
    have hX := getD_lt h.2.1 i
    have hlt : i < xs.length := by omega
    generalize xs[i]?.getD 0 = x at *
    clear hcx h1 h
    subst hA
    go_enter Tryd.func75, Tryd.ntmps75
    go_wp2
    go_ret
    exact ⟨rfl, rfl⟩
/-- append(out, xs...) where xs has no array and no elements. -/
theorem wpList_append_nil {P : Program} {w : World} {ops : Array Oper} {rest : List Oper} {o : Oper} {a : Act} {Q : Exit → Act → World → Prop} (hgd : o.guard = none) (s x : Operand) (t : TypeId)
    (ho : o.op = .call { callee := .builtin .append, args := #[s, x], argTypes := #[t, t] }) (e : TypeId) (i : TypeInfo) (ht : P.underlying t = some (.slice e)) (hi : P.info? e = some i)
    (c : Nat) (hs : a.eval s = .slice none 0 0) (hx : a.eval x = .slice none 0 c) (h : wpList P ops Q rest (a.put o.dst (.slice none 0 0)) w) : wpList P ops Q (o :: rest) a w := by
  refine wpList_plain hgd fun K hK => ?_
  have hrun : (Builtin.append_ #[t, t] o.type #[.slice none 0 0, .slice none 0 c]).run P w = .ok (.slice none 0 0) w := by
    simp [Builtin.append_, run_underlying ht, sizeOf, typeInfo, hi, Builtin.lenOf, Builtin.firstCells]
  unfold Oper.wp
  simp [execOp, ho, resolve, invoke, builtin, hs, hx, hrun, Result.andThen]
  exact hK _ _ h
theorem rtrim_eq {xs : List Nat} {k : Nat} (hk32 : ok32 xs) (hk : k ≤ xs.length) (hz : ∀ j, k ≤ j → j < xs.length → xs[j]?.getD 0 = 0) (hl : 0 < k → xs[k - 1]?.getD 0 ≠ 0) : xs.take k = digs (val xs) := digs_take hk32 hk hz hl
set_option maxHeartbeats 2000000 in
set_option maxRecDepth 100000 in
theorem rtrim_f (A : Option Addr) (c : Nat) (xs : List Nat) (w : World) (h : Dg w A c xs) (hl : xs.length ≤ 16777216) :
    Calls Tryd.prog 54 #[.slice A xs.length c] w fun e w' => ∃ A' c', e = .returned (.slice A' (digs (val xs)).length c') ∧ Dg w' A' c' (digs (val xs)) ∧ Below w.heap.size w w' ∧ Fr w.heap.size A' := by
  obtain ⟨i0, hi, hz0, hz1, hz2⟩ := info_parts elem_info
  rcases A with _ | A
  · have h0 : xs = [] := by
      rcases Nat.eq_zero_or_pos xs.length with h0 | h0
      · exact List.eq_nil_of_length_eq_zero h0
      · obtain ⟨b, off, e, _⟩ := h.2.2 h0
        cases e
    subst h0
    clear h hl
    rw [show val [] = 0 from rfl, digs_zero]
    go_enter Tryd.func54, Tryd.ntmps54
    go_wp2
    go_loop [3] (fun n => n = .int .i64 0) (fun n => (intOf n).toNat)
    case atStart => rfl
    case round =>
      subst hrel
      go_wp2_with (at_builtin; refine wpList_append_nil rfl _ _ 22 rfl 75 i0 Tryd.underlying22 hi c rfl rfl ?_)
      go_ret
      exact ⟨none, 0, rfl, Dg.nil_ _ _, Below.refl _ _, fr_none _⟩
  · have H := Lib.hid h
    have hcap := h.1
    clear h
    go_enter Tryd.func54, Tryd.ntmps54
    go_wp2
    go_loop [3] (fun n => ∃ k : Nat, k ≤ xs.length ∧ n = .int .i64 k ∧ Hid (∀ j, k ≤ j → j < xs.length → xs[j]?.getD 0 = 0)) (fun n => (intOf n).toNat)
    case atStart => exact ⟨xs.length, Nat.le_refl _, rfl, fun j h1 h2 => by omega⟩
    case round =>
      obtain ⟨k, hk, rfl, hz⟩ := hrel
      by_cases hk0 : k = 0
      · subst hk0
        have HT := Lib.hid (show ([] : List Value) = cells (digs (val xs)) from by rw [← digs_take H.out.2.1 hk hz (fun h => absurd h (by omega))]; rfl)
        clear hz hk
        go_wp2_with (at_builtin; refine wpList_append_own _ rfl _ _ 22 rfl w.heap.size 75 i0 (.int .u32 0) 1 4 Tryd.underlying22 hi hz0 hz1 hz2 rfl (by decide) _ _ _ rfl (World.ownsRow_nil _ _ _ _) A 0 c [] rfl rfl (fun j u hj => by simp at hj) (fun u hu => by simp at hu) (by unfold maxLen; omega) (by omega) (Nat.le_refl _) ?_)
        intro v' w1 hown hgrow hnil
        try simp only [Nat.add_zero, List.append_nil] at hown
        rw [HT.out] at hown
        obtain ⟨A', c', hv, hd, hfr⟩ := dg_of_own_f hown (ok_digs _)
        have HV := Lib.hid hv
        have HFR := Lib.hid hfr
        clear hfr hv hown hnil
        go_wp2
        go_ret
        exact ⟨A', c', by rw [← HV.out]; rfl, hd, (Below.refl _ w).grown hgrow (Nat.le_refl _) (by intro k hk; simp [Value.ownBlock] at hk), HFR.out⟩
      · obtain ⟨b, off, hA, hb, hcell⟩ := H.out.2.2 (by omega)
        have hc1 := hcell (k - 1) (by omega)
        have hkc : k ≤ c := by omega
        have hk1 : 0 < k := by omega
        injection hA with hA
        by_cases hx : xs[k - 1]?.getD 0 = 0
        · have hx' : ((xs[k - 1]?.getD 0 : Nat) == (0 : Int)) = true := by rw [hx]; rfl
          have HX := Lib.hid hx
          clear hcell hx
          subst hA
          go_wp2
          go_round
          case rel =>
            refine ⟨k - 1, by omega, by go_num, fun j h1 h2 => ?_⟩
            by_cases hj : j = k - 1
            · subst hj; exact HX.out
            · exact hz j (by omega) h2
          case measure => simp [intOf]; omega
        · have hx' : ((xs[k - 1]?.getD 0 : Nat) == (0 : Int)) = false := by simp; omega
          have HT := Lib.hid (show cells (xs.take k) = cells (digs (val xs)) from by rw [digs_take H.out.2.1 hk hz (fun _ => hx)])
          clear hcell hx
          subst hA
          go_wp2_with (at_builtin; refine wpList_append_own _ rfl _ _ 22 rfl w.heap.size 75 i0 (.int .u32 0) 1 4 Tryd.underlying22 hi hz0 hz1 hz2 rfl (by decide) _ _ _ rfl (World.ownsRow_nil _ _ _ _) ⟨b, off, none⟩ k c (cells (xs.take k)) rfl ?qc1 ?qc2 ?qc3 ?qc4 ?qc5 ?qc6 ?_)
          case qc1 => simp [cells] <;> omega
          case qc2 =>
            intro j u hj
            obtain ⟨hlt, rfl⟩ := cells_get hj
            rw [List.length_take] at hlt
            have h1 : j < k := Nat.lt_of_lt_of_le hlt (Nat.min_le_left _ _)
            have h2 : j < xs.length := Nat.lt_of_lt_of_le hlt (Nat.min_le_right _ _)
            rw [List.getElem?_take, if_pos h1]
            have hdc := dg_cell H.out (cells_at h2)
            rw [Addr.add_lit] at hdc
            exact hdc
          case qc3 => intro u hu; unfold cells at hu; obtain ⟨x, _, rfl⟩ := List.mem_map.1 hu; rfl
          case qc4 => unfold maxLen; omega
          case qc5 => omega
          intro v' w1 hown hgrow hnil
          rw [HT.out] at hown
          obtain ⟨A', c', hv, hd, hfr⟩ := dg_of_own_f hown (ok_digs _)
          have HV := Lib.hid hv
          have HFR := Lib.hid hfr
          clear hfr hv hown hnil
          go_wp2
          go_ret
          exact ⟨A', c', by rw [← HV.out]; rfl, hd, (Below.refl _ w).grown hgrow (Nat.le_refl _) (by intro k hk; simp [Value.ownBlock] at hk), HFR.out⟩
theorem rtrim_any (A : Option Addr) (c : Nat) (xs : List Nat) (w : World) (h : Dg w A c xs) (hl : xs.length ≤ 16777216) :
    Calls Tryd.prog 54 #[.slice A xs.length c] w fun e w' => ∃ A' c', e = .returned (.slice A' (digs (val xs)).length c') ∧ Dg w' A' c' (digs (val xs)) ∧ Below w.heap.size w w' :=
  (rtrim_f A c xs w h hl).mono fun _ _ ⟨A', c', h1, h2, h3, _⟩ => ⟨A', c', h1, h2, h3⟩
end Go.Proofs.YthgkdpfkaobgoaaDoor
end

section
/-
  The reference's own text (astrolaberef01): Small, Bits, Bit, From, Cmp.
-/
namespace Go.Proofs.YthgkdpfkaobgoaaDoor
open Go.RowKit
theorem or_join' (a b : Nat) (ha : a < 4294967296) (hb : b < 4294967296) : bits BinOp.or IntKind.u64 (a : Int) ((b : Int) * 4294967296) = ((a + 4294967296 * b : Nat) : Int) := by
  have e : (b : Int) * 4294967296 = ((b * 4294967296 : Nat) : Int) := by omega
  rw [e, u64_or_nat _ _ (by omega) (by omega), Nat.or_comm, nat_join 32 _ _ (by omega) (by omega)]
  congr 1
  omega
set_option maxHeartbeats 1000000 in
set_option maxRecDepth 100000 in
theorem rsmall_any (A : Option Addr) (c : Nat) (xs : List Nat) (w : World) (h : Dg w A c xs) (hl : xs.length ≤ 16777216) :
    Calls Tryd.prog 56 #[.slice A xs.length c] w fun e w' => e = .returned (.tuple #[.int .u64 (small? (val xs)), .bool (decide (val xs < 18446744073709551616))]) ∧ Below w.heap.size w w' := by
  have H := Lib.hid h
  clear h
  go_enter Tryd.func56, Tryd.ntmps56
  go_wp2_with fail
  refine (rtrim_any A c xs _ H.out hl).mono ?_
  rintro e w1 ⟨A1, c1, rfl, h1, hb⟩
  have H1 := Lib.hid h1
  have HB := Lib.hid hb
  clear h1 hb
  by_cases hlt : val xs < 18446744073709551616
  · have hs := digs_small hlt
    have hv := val_digs (val xs)
    have o := ok_digs (val xs)
    have x0 := getD_lt o 0
    have x1 := getD_lt o 1
    have d0 : decide (2 < (digs (val xs)).length) = false := by simp; omega
    have HV : (digs (val xs))[0]?.getD 0 + 4294967296 * ((digs (val xs))[1]?.getD 0) = val xs := by
      generalize digs (val xs) = D at *
      rcases D with _ | ⟨d0, _ | ⟨d1, _ | ⟨d2, r⟩⟩⟩
      · simp [val] at hv ⊢; omega
      · simp [val] at hv ⊢; omega
      · simp [val] at hv ⊢; omega
      · simp at hs
    have HF := Lib.hid (small_yes HV.symm hlt)
    have HO := Lib.hid (or_join' _ _ x0 x1)
    clear hlt hv o HV
    generalize digs (val xs) = D at *
    have r0 := Lib.hid (rat_any A1 c1 D 0 w1 H1.out (by omega))
    have r1 := Lib.hid (rat_any A1 c1 D 1 w1 H1.out (by omega))
    generalize D[0]?.getD 0 = x at *
    generalize D[1]?.getD 0 = y at *
    go_wp2_with fail
    refine r0.out.mono ?_
    rintro e w' ⟨rfl, rfl⟩
    go_wp2_with fail
    refine r1.out.mono ?_
    rintro e w' ⟨rfl, rfl⟩
    go_wp2
    go_ret2
    exact ⟨ret_ub ⟨HO.out.trans HF.out.1, HF.out.2⟩, HB.out⟩
  · have HF := Lib.hid (small_no (n := val xs) (by omega))
    have hg := digs_great (n := val xs) (by omega)
    have d0 : decide (2 < (digs (val xs)).length) = true := by simp; omega
    clear hlt
    go_wp2
    go_ret2
    exact ⟨ret_ub HF.out, HB.out⟩
set_option maxHeartbeats 1000000 in
set_option maxRecDepth 100000 in
theorem rbits_any (A : Option Addr) (c : Nat) (xs : List Nat) (w : World) (h : Dg w A c xs) (hl : xs.length ≤ 16777216) :
    Calls Tryd.prog 84 #[.slice A xs.length c] w fun e w' => e = .returned (.int .i64 (blen (val xs))) ∧ Below w.heap.size w w' := by
  have l1 := digs_len_le h.2.1
  have H := Lib.hid h
  clear h
  go_enter Tryd.func84, Tryd.ntmps84
  go_wp2_with fail
  refine (rtrim_any A c xs _ H.out hl).mono ?_
  rintro e w1 ⟨A1, c1, rfl, h1, hb⟩
  have H1 := Lib.hid h1
  have HB := Lib.hid hb
  clear h1 hb
  by_cases h0 : val xs = 0
  · have e0 : digs (val xs) = [] := by rw [h0, digs_zero]
    have HF := Lib.hid (show (0 : Int) = (blen (val xs) : Int) from by rw [h0, blen_zero]; rfl)
    rw [e0]
    clear h0 e0
    go_wp2
    go_ret
    exact ⟨ret_i HF.out, HB.out⟩
  · have hb := blen_digs (val xs) h0
    have hn : (digs (val xs)).length ≠ 0 := fun h => h0 (digs_nil.1 h)
    have ok := ok_digs (val xs)
    generalize digs (val xs) = X at *
    obtain ⟨b, off, hA, hbk, hcx⟩ := H1.out.2.2 (by omega)
    have hx := hcx (X.length - 1) (by omega)
    have hlt := getD_lt ok (X.length - 1)
    generalize X[X.length - 1]?.getD 0 = d at *
    have hbl : blen d ≤ 64 := by rw [blen_eq _ (by omega)]; exact Lib.bitLen_le d 64 (by omega) (by omega)
    have HBL := Lib.hid hb
    have t0 : 0 < X.length := by omega
    have t1 : ((X.length : Int) == 0) = false := beq_eq_false_iff_ne.2 (by omega)
    clear hcx hb h0 hn ok
    subst hA
    go_wp2
    go_loop [4, 5] (fun bi kk => ∃ i k : Nat, bi = .int .i64 (32 * ((X.length : Int) - 1) + i) ∧ kk = .int .u32 k ∧ k < 4294967296 ∧ Hid (i + blen k = blen d)) (fun _ kk => (intOf kk).toNat)
    case atStart => exact ⟨0, d, by go_num, rfl, hlt, by simp [Hid]⟩
    case round =>
      obtain ⟨i, k, rfl, rfl, hk, HE⟩ := hrel
      have hi : i ≤ 64 := by have := HE.out; omega
      by_cases h0 : k = 0
      · subst h0
        have HI := Lib.hid (show (32 * ((X.length : Int) - 1) + i) = (blen (val xs) : Int) from by have := HE.out; rw [blen_zero] at this; rw [HBL.out]; omega)
        clear HE
        go_wp2
        go_ret
        exact ⟨ret_i HI.out, HB.out⟩
      · have hkp : 0 < k := by omega
        have HK := Lib.hid (blen_pos h0)
        go_wp2
        go_round
        case rel => exact ⟨i + 1, k / 2, by go_num, by go_num, by omega, by have := HE.out; rw [HK.out] at this; show i + 1 + blen (k / 2) = blen d; omega⟩
        case measure => simp [intOf]; omega
set_option maxHeartbeats 400000 in
set_option maxRecDepth 100000 in
theorem rfrom_any (n : Nat) (w : World) (hn : n < 18446744073709551616) :
    Calls Tryd.prog 52 #[.int .u64 n] w fun e w' => ∃ A' c', e = .returned (.slice A' (digs n).length c') ∧ Dg w' A' c' (digs n) ∧ Below w.heap.size w w' := by
  have hv : val [n % 4294967296, n / 4294967296] = n := by simp only [val]; omega
  have hd := dg_two w ((n : Int) % 4294967296) ((n : Int) / 4294967296) (n % 4294967296) (n / 4294967296) (by omega) (by omega) 75 (by omega) (by omega)
  have hs := rtrim_any _ _ _ _ hd (by simp)
  rw [hv] at hs
  have HS := Lib.hid hs
  clear hs hv hd
  go_enter Tryd.func52, Tryd.ntmps52
  go_wp2_with fail
  refine Calls.mono (show Calls Tryd.prog 54 #[.slice _ 2 2] _ _ from HS.out) ?_
  rintro e w' ⟨A1, c1, rfl, h1, hb⟩
  have H1 := Lib.hid h1
  clear h1
  go_wp2
  go_ret
  exact ⟨A1, c1, rfl, H1.out, ((Below.refl _ _).alloc (Nat.le_refl _) _).trans (hb.mono (by simp))⟩
end Go.Proofs.YthgkdpfkaobgoaaDoor
end

section
/-
  The reference's own text (astrolaberef01): Cmp, Add, Sub.
-/
namespace Go.Proofs.YthgkdpfkaobgoaaDoor
open Go.RowKit
/-- A list with noughts behind. -/
def pad (xs : List Nat) (N : Nat) : List Nat := xs ++ List.replicate (N - xs.length) 0
theorem pad_len {xs : List Nat} {N : Nat} (h : xs.length ≤ N) : (pad xs N).length = N := by simp [pad]; omega
theorem pad_val (xs : List Nat) (N : Nat) : val (pad xs N) = val xs := by rw [pad, val_append, val_zeros]; simp
theorem pad_ok {xs : List Nat} (N : Nat) (h : ok32 xs) : ok32 (pad xs N) := by
  intro x hx
  rcases List.mem_append.1 hx with hx | hx
  · exact h x hx
  · rw [List.eq_of_mem_replicate hx]; omega
theorem pad_get (xs : List Nat) (N j : Nat) : (pad xs N)[j]?.getD 0 = xs[j]?.getD 0 := by
  rcases Nat.lt_or_ge j xs.length with h | h
  · rw [pad, List.getElem?_append_left h]
  · rw [pad, List.getElem?_append_right h, List.getElem?_eq_none h, List.getElem?_replicate]
    split <;> rfl
theorem val_take_step (xs : List Nat) (k : Nat) : val (xs.take (k + 1)) = val (xs.take k) + 4294967296 ^ k * (xs[k]?.getD 0) := by
  rcases Nat.lt_or_ge k xs.length with h | h
  · rw [take_one h, val_snoc, List.length_take, Nat.min_eq_left (by omega)]
  · rw [List.take_of_length_le (by omega), List.take_of_length_le h, List.getElem?_eq_none h]; simp
theorem val_take_mod {xs : List Nat} (h : ok32 xs) (k : Nat) : val (xs.take k) = val xs % 4294967296 ^ k := by
  have e : val xs = val (xs.take k) + 4294967296 ^ k * val (xs.drop k) := by
    rcases Nat.lt_or_ge k xs.length with hl | hl
    · conv => lhs; rw [← List.take_append_drop k xs, val_append]
      rw [List.length_take, Nat.min_eq_left (by omega)]
    · rw [List.take_of_length_le hl, List.drop_eq_nil_of_le hl]; simp [val]
  have hlt : val (xs.take k) < 4294967296 ^ k := by
    have h1 := val_lt (xs := xs.take k) (fun x hx => h x (List.mem_of_mem_take hx))
    rw [List.length_take] at h1
    exact Nat.lt_of_lt_of_le h1 (Nat.pow_le_pow_right (by omega) (Nat.min_le_left _ _))
  rw [e, Nat.add_mul_mod_self_left, Nat.mod_eq_of_lt hlt]
theorem pad_lt {xs ys : List Nat} {N k : Nat} (hx : ok32 xs) (hy : ok32 ys) (lx : xs.length ≤ N) (ly : ys.length ≤ N) (hk : k < N) (hj : ∀ j, k < j → j < N → xs[j]?.getD 0 = ys[j]?.getD 0) (h : xs[k]?.getD 0 < ys[k]?.getD 0) : val xs < val ys := by
  rw [← pad_val xs N, ← pad_val ys N]
  exact val_lt_at _ _ k (by rw [pad_len lx, pad_len ly]) (pad_ok N hx) (pad_ok N hy) (by rw [pad_len lx]; exact hk) (fun j a b => by rw [pad_len lx] at b; rw [pad_get, pad_get]; exact hj j a b) (by rw [pad_get, pad_get]; exact h)
theorem pad_eq {xs ys : List Nat} {N : Nat} (lx : xs.length ≤ N) (ly : ys.length ≤ N) (hj : ∀ j, j < N → xs[j]?.getD 0 = ys[j]?.getD 0) : val xs = val ys := by
  rw [← pad_val xs N, ← pad_val ys N]
  exact congrArg val (val_eq_of (by rw [pad_len lx, pad_len ly]) (fun j b => by rw [pad_len lx] at b; rw [pad_get, pad_get]; exact hj j b))
set_option maxHeartbeats 2000000 in
set_option maxRecDepth 100000 in
theorem rcmp_any (A B : Option Addr) (c d : Nat) (xs ys : List Nat) (w : World) (h : Dg w A c xs) (h' : Dg w B d ys) (hl : xs.length ≤ 16777216) (hl' : ys.length ≤ 16777216) :
    Calls Tryd.prog 59 #[.slice A xs.length c, .slice B ys.length d] w fun e w' => e = .returned (.int .i64 (cmpi (val xs) (val ys))) ∧ w = w' := by
  have hN : ∃ N : Nat, max (xs.length : Int) (ys.length : Int) = (N : Int) ∧ xs.length ≤ N ∧ ys.length ≤ N ∧ N ≤ 16777216 := ⟨max xs.length ys.length, by omega, by omega, by omega, by omega⟩
  obtain ⟨N, eN, n1, n2, n3⟩ := hN
  have EN := Lib.hid eN
  have RX := Lib.hid (fun (k : Nat) (hk : k ≤ 9223372036854775807) => rat_any A c xs k w h hk)
  have RY := Lib.hid (fun (k : Nat) (hk : k ≤ 9223372036854775807) => rat_any B d ys k w h' hk)
  have O1 := Lib.hid h.2.1
  have O2 := Lib.hid h'.2.1
  clear eN h h'
  go_enter Tryd.func59, Tryd.ntmps59
  go_wp2
  go_loop [5] (fun i => ∃ k : Nat, k ≤ N ∧ i = .int .i64 (↑k - 1) ∧ Hid (∀ j, k ≤ j → j < N → xs[j]?.getD 0 = ys[j]?.getD 0)) (fun i => (intOf i + 1).toNat)
  case atStart => exact ⟨N, Nat.le_refl _, congrArg (Value.int .i64) (by rw [EN.out]), fun j a b => by omega⟩
  case round =>
    obtain ⟨k, hk, rfl, hz⟩ := hrel
    rcases k with _ | k
    · rw [show (((0 : Nat) : Int) - 1) = -1 from rfl]
      have HF := Lib.hid (cmpi_eq (a := val xs) (b := val ys) (pad_eq n1 n2 (fun j hj => hz j (Nat.zero_le _) hj)))
      go_wp2
      go_ret
      exact ⟨ret_i HF.out.symm, rfl⟩
    · rw [show (((k + 1 : Nat) : Int) - 1) = (k : Int) from by omega]
      have hX := getD_lt O1.out k
      have hY := getD_lt O2.out k
      have rx := Lib.hid (RX.out k (by omega))
      have ry := Lib.hid (RY.out k (by omega))
      have HJ := Lib.hid (fun j (a : k < j) (b : j < N) => hz j (by omega) b)
      rcases Nat.lt_trichotomy (xs[k]?.getD 0) (ys[k]?.getD 0) with h | h | h
      · have HF := Lib.hid (cmpi_lt (pad_lt O1.out O2.out n1 n2 (by omega) HJ.out h))
        have d0 : decide (xs[k]?.getD 0 < ys[k]?.getD 0) = true := by simp [h]
        clear h
        go_wp2_with fail
        refine rx.out.mono ?_
        rintro e w' ⟨rfl, rfl⟩
        go_wp2_with fail
        refine ry.out.mono ?_
        rintro e w' ⟨rfl, rfl⟩
        go_wp2
        go_ret
        exact ⟨ret_i HF.out.symm, rfl⟩
      · have HX := Lib.hid h
        have d0 : decide (xs[k]?.getD 0 < ys[k]?.getD 0) = false := by simp; omega
        have d1 : decide (ys[k]?.getD 0 < xs[k]?.getD 0) = false := by simp; omega
        clear h
        go_wp2_with fail
        refine rx.out.mono ?_
        rintro e w' ⟨rfl, rfl⟩
        go_wp2_with fail
        refine ry.out.mono ?_
        rintro e w' ⟨rfl, rfl⟩
        go_wp2_with fail
        refine rx.out.mono ?_
        rintro e w' ⟨rfl, rfl⟩
        go_wp2_with fail
        refine ry.out.mono ?_
        rintro e w' ⟨rfl, rfl⟩
        go_wp2
        go_round
        case rel =>
          refine ⟨k, by omega, rfl, fun j a b => ?_⟩
          rcases Nat.eq_or_lt_of_le a with e | e
          · subst e; exact HX.out
          · exact hz j (by omega) b
        case measure => simp [intOf] <;> omega
      · have HF := Lib.hid (cmpi_gt (pad_lt O2.out O1.out n2 n1 (by omega) (fun j a b => (HJ.out j a b).symm) h))
        have d0 : decide (xs[k]?.getD 0 < ys[k]?.getD 0) = false := by simp; omega
        have d1 : decide (ys[k]?.getD 0 < xs[k]?.getD 0) = true := by simp [h]
        clear h
        go_wp2_with fail
        refine rx.out.mono ?_
        rintro e w' ⟨rfl, rfl⟩
        go_wp2_with fail
        refine ry.out.mono ?_
        rintro e w' ⟨rfl, rfl⟩
        go_wp2_with fail
        refine rx.out.mono ?_
        rintro e w' ⟨rfl, rfl⟩
        go_wp2_with fail
        refine ry.out.mono ?_
        rintro e w' ⟨rfl, rfl⟩
        go_wp2
        go_ret
        exact ⟨ret_i HF.out.symm, rfl⟩
theorem rsum_step {xs ys zs : List Nat} {k s d c t : Nat} (hz : zs.length = k) (h : val zs + 4294967296 ^ k * c = val (xs.take k) + val (ys.take k))
    (hs : s + 4294967296 * d = xs[k]?.getD 0 + ys[k]?.getD 0 + c) (ht : t = s) : val (zs ++ [t]) + 4294967296 ^ (k + 1) * d = val (xs.take (k + 1)) + val (ys.take (k + 1)) := by
  subst ht
  rw [val_take_step, val_take_step, val_snoc, hz, Nat.pow_succ]
  have : 4294967296 ^ k * t + 4294967296 ^ k * 4294967296 * d = 4294967296 ^ k * (xs[k]?.getD 0) + 4294967296 ^ k * (ys[k]?.getD 0) + 4294967296 ^ k * c := by
    rw [Nat.mul_assoc, ← Nat.mul_add, hs, Nat.mul_add, Nat.mul_add]
  omega
theorem sum_end {a b c p q z : Nat} (h : c + p * z = a + b) (ha : a < q) (hb : b < q) (hp : 2 * q ≤ p) : c = a + b := by
  rcases z with _ | z
  · omega
  · have : p ≤ p * (z + 1) := Nat.le_mul_of_pos_right _ (by omega)
    omega
theorem pow_twice (N : Nat) : 2 * 4294967296 ^ N ≤ 4294967296 ^ (N + 1) := by
  rw [Nat.pow_succ]
  have := Nat.mul_le_mul_left (4294967296 ^ N) (show 2 ≤ 4294967296 by omega)
  rw [Nat.mul_comm 2]
  exact this
theorem rsum_end {xs ys zs : List Nat} {N z : Nat} (o1 : ok32 xs) (o2 : ok32 ys) (n1 : xs.length ≤ N) (n2 : ys.length ≤ N) (h : val zs + 4294967296 ^ (N + 1) * z = val (xs.take (N + 1)) + val (ys.take (N + 1))) : val zs = val xs + val ys := by
  rw [List.take_of_length_le (by omega), List.take_of_length_le (by omega)] at h
  exact sum_end h (Nat.lt_of_lt_of_le (val_lt o1) (Nat.pow_le_pow_right (by omega) n1)) (Nat.lt_of_lt_of_le (val_lt o2) (Nat.pow_le_pow_right (by omega) n2)) (pow_twice N)
theorem ok_snoc {zs : List Nat} (h : ok32 zs) {x : Nat} (hx : x < 4294967296) : ok32 (zs ++ [x]) := by
  intro z hz
  rcases List.mem_append.1 hz with hz | hz
  · exact h z hz
  · simp at hz; omega
theorem own_snoc {w : World} {base : Nat} {e : TypeId} {v : Value} {k : Nat} {zs : List Nat} {x : Int} {t : Nat} (h : w.ownsRow base e 1 v (k + 1) (cells zs ++ [.int .u32 x])) (hx : x = (t : Int)) : w.ownsRow base e 1 v (k + 1) (cells (zs ++ [t])) := by
  subst hx
  simpa [cells] using h
theorem cell_new (w : World) (x : Value) (t : TypeId) : ∀ j u, [x][j]? = some u → (w.alloc (.cells #[x] t)).cell? ((⟨w.heap.size, 0, none⟩ : Addr).add j) = some u := by
  intro j u hj
  match j, hj with
  | 0, hj =>
    simp at hj; subst hj
    rw [Addr.add_lit, cell_of_row _ _ _ _ _ _ (heap_alloc_new w _)]
    rfl
set_option maxHeartbeats 4000000 in
set_option maxRecDepth 100000 in
theorem radd_any (A B : Option Addr) (c d : Nat) (xs ys : List Nat) (w : World) (h : Dg w A c xs) (h' : Dg w B d ys) (hl : xs.length ≤ 1048576) (hl' : ys.length ≤ 1048576) :
    Calls Tryd.prog 47 #[.slice A xs.length c, .slice B ys.length d] w fun e w' => ∃ A' c', e = .returned (.slice A' (digs (val xs + val ys)).length c') ∧ Dg w' A' c' (digs (val xs + val ys)) ∧ Below w.heap.size w w' := by
  have hN : ∃ N : Nat, max (xs.length : Int) (ys.length : Int) = (N : Int) ∧ xs.length ≤ N ∧ ys.length ≤ N ∧ N ≤ 1048576 := ⟨max xs.length ys.length, by omega, by omega, by omega, by omega⟩
  obtain ⟨N, eN, n1, n2, n3⟩ := hN
  obtain ⟨i0, hinf, hz0, hz1, hz2⟩ := info_parts elem_info
  have H := Lib.hid h
  have H' := Lib.hid h'
  have O1 := Lib.hid h.2.1
  have O2 := Lib.hid h'.2.1
  clear h h'
  go_enter Tryd.func47, Tryd.ntmps47
  go_wp2
  go_loopw [5, 6, 7] (fun v cy i wr => ∃ (k z : Nat) (zs : List Nat), k ≤ N + 1 ∧ i = .int .i64 k ∧ cy = .int .u64 z ∧ z ≤ 1 ∧ wr.ownsRow w.heap.size 75 1 v k (cells zs) ∧ Hid (zs.length = k) ∧ ok32 zs ∧
    Hid (val zs + 4294967296 ^ k * z = val (xs.take k) + val (ys.take k)) ∧ Below w.heap.size w wr) (fun _ _ i _ => N + 1 - (intOf i).toNat)
  case atStart => exact ⟨0, 0, [], Nat.zero_le _, rfl, rfl, by omega, World.ownsRow_nil _ _ _ _, by simp [Hid], by intro x hx; simp at hx, by simp [Hid, val], Below.refl _ _⟩
  case round =>
    obtain ⟨k, z, zs, hk, rfl, rfl, hz, hown, HL, hok, HE, hbel⟩ := hrel
    by_cases hlt : k < N + 1
    · have d0 : decide ((k : Int) < max (xs.length : Int) (ys.length : Int) + 1) = true := by rw [eN]; simp; omega
      have rx := Lib.hid (rat_any A c xs k wr (H.out.keep hbel.size (fun b o h => hbel.cell (p := ⟨b, o, none⟩) h)) (by omega))
      have ry := Lib.hid (rat_any B d ys k wr (H'.out.keep hbel.size (fun b o h => hbel.cell (p := ⟨b, o, none⟩) h)) (by omega))
      have hX := getD_lt O1.out k
      have hY := getD_lt O2.out k
      generalize ex : xs[k]?.getD 0 = x at *
      generalize ey : ys[k]?.getD 0 = y at *
      have HX := Lib.hid ex
      have HY := Lib.hid ey
      clear ex ey eN
      go_wp2_with fail
      refine rx.out.mono ?_
      rintro e w' ⟨rfl, rfl⟩
      go_wp2_with fail
      refine ry.out.mono ?_
      rintro e w' ⟨rfl, rfl⟩
      go_wp2_with (at_builtin; refine wpList_append_own _ rfl _ _ 22 rfl w.heap.size 75 i0 (.int .u32 0) 1 4 Tryd.underlying22 hinf hz0 hz1 hz2 rfl (by decide) _ _ _ rfl (hown.alloc _) ⟨wr.heap.size, 0, none⟩ 1 1 [.int .u32 (((x : Int) + y + z) % 4294967296)] rfl rfl (cell_new _ _ _) (fun u hu => by simp at hu; subst hu; rfl) (by unfold maxLen; omega) (by omega) (by have := hbel.size; simp; omega) ?_)
      intro v' w1 hown1 hgrow hnil
      have e1 : ((x : Int) + y + z) % 4294967296 = (lo (x + y + z) : Nat) := by unfold lo; omega
      have hown2 := Lib.hid (own_snoc hown1 e1)
      have hb1 := Lib.hid ((hbel.alloc hbel.size _).grown hgrow (by simp; have := hbel.size; omega) (fun g hg => (hown.lt g hg).1))
      clear hown1 hgrow hnil hown e1
      go_wp2
      go_roundw
      case rel =>
        have hp := lo_hi (x + y + z)
        have hq := lo_lt (x + y + z)
        have e2 : ((x : Int) + y + z) / 4294967296 = (hi (x + y + z) : Nat) := by unfold hi; omega
        exact ⟨k + 1, hi (x + y + z), zs ++ [lo (x + y + z)], hlt, by go_num, by rw [e2], by omega, hown2.out, by have := HL.out; simp [Hid]; omega, ok_snoc hok hq,
          rsum_step HL.out HE.out (by rw [HX.out, HY.out]; exact hp) rfl, hb1.out⟩
      case measure => simp [intOf]; omega
    · have hk' : k = N + 1 := by omega
      have d0 : decide ((k : Int) < max (xs.length : Int) (ys.length : Int) + 1) = false := by rw [eN]; simp; omega
      obtain ⟨A2, c2, hv, hd⟩ := dg_of_own hown hok
      have HV := Lib.hid (show val zs = val xs + val ys from by
        have h1 := HE.out
        rw [hk'] at h1
        exact rsum_end O1.out O2.out n1 n2 h1)
      have HD := Lib.hid (rtrim_any A2 c2 zs wr hd (by have := HL.out; omega))
      rw [HV.out] at HD
      subst hv
      clear hown hd eN hlt
      go_wp2_with fail
      refine HD.out.mono ?_
      rintro e w2 ⟨A3, c3, rfl, h3, hb3⟩
      have H3 := Lib.hid h3
      have HB3 := Lib.hid hb3
      clear h3 hb3
      go_wp2
      go_ret
      exact ⟨A3, c3, rfl, H3.out, hbel.trans (HB3.out.mono hbel.size)⟩
end Go.Proofs.YthgkdpfkaobgoaaDoor
end

section
/-
  The reference's own text (astrolaberef01): Sub, Mul.
-/
namespace Go.Proofs.YthgkdpfkaobgoaaDoor
open Go.RowKit
theorem rsub_step {xs ys zs : List Nat} {k s d c t : Nat} (hz : zs.length = k) (h : val (xs.take k) + 4294967296 ^ k * c = val zs + val (ys.take k))
    (hs : s + ys[k]?.getD 0 + c = xs[k]?.getD 0 + 4294967296 * d) (ht : t = s) : val (xs.take (k + 1)) + 4294967296 ^ (k + 1) * d = val (zs ++ [t]) + val (ys.take (k + 1)) := by
  subst ht
  rw [val_take_step, val_take_step, val_snoc, hz, Nat.pow_succ]
  have : 4294967296 ^ k * (xs[k]?.getD 0) + 4294967296 ^ k * 4294967296 * d = 4294967296 ^ k * t + 4294967296 ^ k * (ys[k]?.getD 0) + 4294967296 ^ k * c := by
    rw [Nat.mul_assoc, ← Nat.mul_add, ← hs, Nat.mul_add, Nat.mul_add]
  omega
theorem rsub_end {xs ys zs : List Nat} {d : Nat} (o1 : ok32 xs) (o2 : ok32 ys) (o3 : ok32 zs) (hz : zs.length = xs.length) (hle : val ys ≤ val xs) (h : val (xs.take xs.length) + 4294967296 ^ xs.length * d = val zs + val (ys.take xs.length)) : val zs = val xs - val ys := by
  have hy : val (ys.take xs.length) = val ys := by
    rw [val_take_mod o2, Nat.mod_eq_of_lt (Nat.lt_of_le_of_lt hle (val_lt o1))]
  rw [List.take_of_length_le (Nat.le_refl _), hy] at h
  exact sub_end h (by rw [← hz]; exact val_lt o3) hle
set_option maxHeartbeats 1000000 in
set_option maxRecDepth 100000 in
theorem rsub_no (A B : Option Addr) (c d : Nat) (xs ys : List Nat) (w : World) (h : Dg w A c xs) (h' : Dg w B d ys) (hl : xs.length ≤ 1048576) (hl' : ys.length ≤ 1048576) (hlt : val xs < val ys) :
    Calls Tryd.prog 48 #[.slice A xs.length c, .slice B ys.length d] w fun e w' => e = .returned (.tuple #[.slice none 0 0, .bool false]) ∧ w = w' := by
  have HC := Lib.hid (rcmp_any A B c d xs ys w h h' (by omega) (by omega))
  rw [cmpi_lt hlt] at HC
  clear h h' hlt
  go_enter Tryd.func48, Tryd.ntmps48
  go_wp2_with fail
  refine HC.out.mono ?_
  rintro e w' ⟨rfl, rfl⟩
  go_wp2
  go_ret2
  exact ⟨rfl, rfl⟩
set_option maxHeartbeats 4000000 in
set_option maxRecDepth 100000 in
theorem rsub_f (A B : Option Addr) (c d : Nat) (xs ys : List Nat) (w : World) (h : Dg w A c xs) (h' : Dg w B d ys) (hl : xs.length ≤ 1048576) (hl' : ys.length ≤ 1048576) (hge : val ys ≤ val xs) :
    Calls Tryd.prog 48 #[.slice A xs.length c, .slice B ys.length d] w fun e w' => ∃ A' c', e = .returned (.tuple #[.slice A' (digs (val xs - val ys)).length c', .bool true]) ∧ Dg w' A' c' (digs (val xs - val ys)) ∧ Below w.heap.size w w' ∧ Fr w.heap.size A' := by
  obtain ⟨i0, hinf, hz0, hz1, hz2⟩ := info_parts elem_info
  have HC := Lib.hid (rcmp_any A B c d xs ys w h h' (by omega) (by omega))
  have H := Lib.hid h
  have H' := Lib.hid h'
  have O1 := Lib.hid h.2.1
  have O2 := Lib.hid h'.2.1
  have HG := Lib.hid hge
  have hc0 : 0 ≤ cmpi (val xs) (val ys) := by
    rcases Nat.lt_or_ge (val ys) (val xs) with h | h
    · rw [cmpi_gt h]; omega
    · rw [cmpi_eq (by omega)]; omega
  clear h h' hge
  generalize cmpi (val xs) (val ys) = q at *
  have hq : decide (q < 0) = false := by simp; omega
  go_enter Tryd.func48, Tryd.ntmps48
  go_wp2_with fail
  refine HC.out.mono ?_
  rintro e w' ⟨rfl, rfl⟩
  go_wp2
  go_loopw [6, 7, 8] (fun v cy i wr => ∃ (k z : Nat) (zs : List Nat), k ≤ xs.length ∧ i = .int .i64 k ∧ cy = .int .u64 z ∧ z ≤ 1 ∧ wr.ownsRow w.heap.size 75 1 v k (cells zs) ∧ Hid (zs.length = k) ∧ ok32 zs ∧
    Hid (val (xs.take k) + 4294967296 ^ k * z = val zs + val (ys.take k)) ∧ Below w.heap.size w wr) (fun _ _ i _ => xs.length - (intOf i).toNat)
  case atStart => exact ⟨0, 0, [], Nat.zero_le _, rfl, rfl, by omega, World.ownsRow_nil _ _ _ _, by simp [Hid], by intro x hx; simp at hx, by simp [Hid, val], Below.refl _ _⟩
  case round =>
    obtain ⟨k, z, zs, hk, rfl, rfl, hz, hown, HL, hok, HE, hbel⟩ := hrel
    by_cases hlt : k < xs.length
    · have rx := Lib.hid (rat_any A c xs k wr (H.out.keep hbel.size (fun b o h => hbel.cell (p := ⟨b, o, none⟩) h)) (by omega))
      have ry := Lib.hid (rat_any B d ys k wr (H'.out.keep hbel.size (fun b o h => hbel.cell (p := ⟨b, o, none⟩) h)) (by omega))
      have hX := getD_lt O1.out k
      have hY := getD_lt O2.out k
      generalize ex : xs[k]?.getD 0 = x at *
      generalize ey : ys[k]?.getD 0 = y at *
      have HX := Lib.hid ex
      have HY := Lib.hid ey
      clear ex ey
      go_wp2_with fail
      refine rx.out.mono ?_
      rintro e w' ⟨rfl, rfl⟩
      go_wp2_with fail
      refine ry.out.mono ?_
      rintro e w' ⟨rfl, rfl⟩
      go_wp2_with (at_builtin; refine wpList_append_own _ rfl _ _ 22 rfl w.heap.size 75 i0 (.int .u32 0) 1 4 Tryd.underlying22 hinf hz0 hz1 hz2 rfl (by decide) _ _ _ rfl (hown.alloc _) ⟨wr.heap.size, 0, none⟩ 1 1 [.int .u32 (((x : Int) + 4294967296 - y - z) % 4294967296)] rfl rfl (cell_new _ _ _) (fun u hu => by simp at hu; subst hu; rfl) (by unfold maxLen; omega) (by omega) (by have := hbel.size; simp; omega) ?_)
      intro v' w1 hown1 hgrow hnil
      obtain ⟨hp, hq1, hq2⟩ := sub_parts hX hY hz
      have e1 : ((x : Int) + 4294967296 - y - z) % 4294967296 = (sublo x y z : Nat) := by unfold sublo; omega
      have e2 : 1 - ((x : Int) + 4294967296 - y - z) / 4294967296 = (subhi x y z : Nat) := by unfold subhi; split <;> omega
      have hown2 := Lib.hid (own_snoc hown1 e1)
      have HE2 := Lib.hid e2
      have HP := Lib.hid hp
      have hb1 := Lib.hid ((hbel.alloc hbel.size _).grown hgrow (by simp; have := hbel.size; omega) (fun g hg => (hown.lt g hg).1))
      clear hown1 hgrow hnil hown e1 e2 hp
      go_wp2
      go_roundw
      case rel =>
        exact ⟨k + 1, subhi x y z, zs ++ [sublo x y z], hlt, by go_num, by rw [HE2.out], by omega, hown2.out, by have := HL.out; simp [Hid]; omega, ok_snoc hok hq1,
          rsub_step HL.out HE.out (by rw [HX.out, HY.out]; exact HP.out) rfl, hb1.out⟩
      case measure => simp [intOf]; omega
    · have hk' : k = xs.length := by omega
      subst hk'
      obtain ⟨A2, c2, hv, hd⟩ := dg_of_own hown hok
      have HV := Lib.hid (rsub_end O1.out O2.out hok HL.out HG.out HE.out)
      have HD := Lib.hid (rtrim_f A2 c2 zs wr hd (by have := HL.out; omega))
      rw [HV.out] at HD
      subst hv
      clear hown hd hlt
      go_wp2_with fail
      refine HD.out.mono ?_
      rintro e w2 ⟨A3, c3, rfl, h3, hb3, hf3⟩
      have HF3 := Lib.hid hf3
      have H3 := Lib.hid h3
      have HB3 := Lib.hid hb3
      clear h3 hb3 hf3
      go_wp2
      go_ret2
      exact ⟨A3, c3, rfl, H3.out, hbel.trans (HB3.out.mono hbel.size), fun b o e => Nat.le_trans hbel.size (HF3.out b o e)⟩
theorem rsub_yes (A B : Option Addr) (c d : Nat) (xs ys : List Nat) (w : World) (h : Dg w A c xs) (h' : Dg w B d ys) (hl : xs.length ≤ 1048576) (hl' : ys.length ≤ 1048576) (hge : val ys ≤ val xs) :
    Calls Tryd.prog 48 #[.slice A xs.length c, .slice B ys.length d] w fun e w' => ∃ A' c', e = .returned (.tuple #[.slice A' (digs (val xs - val ys)).length c', .bool true]) ∧ Dg w' A' c' (digs (val xs - val ys)) ∧ Below w.heap.size w w' :=
  (rsub_f A B c d xs ys w h h' hl hl' hge).mono fun _ _ ⟨A', c', h1, h2, h3, _⟩ => ⟨A', c', h1, h2, h3⟩
end Go.Proofs.YthgkdpfkaobgoaaDoor
end

section
/-
  The reference's own text (astrolaberef01): Mul.
-/
namespace Go.Proofs.YthgkdpfkaobgoaaDoor
open Go.RowKit
theorem Row.new_zeros (w : World) (n : Nat) : Row (w.alloc (.cells (madeCells #[.int .u32 0] n) 75)) w.heap.size (List.replicate n 0) := Row.made w n
set_option maxHeartbeats 4000000 in
set_option maxRecDepth 100000 in
theorem rmul_any (A B : Option Addr) (c d : Nat) (xs ys : List Nat) (w : World) (h : Dg w A c xs) (h' : Dg w B d ys) (hl : xs.length ≤ 1048576) (hl' : ys.length ≤ 1048576) :
    Calls Tryd.prog 50 #[.slice A xs.length c, .slice B ys.length d] w fun e w' => ∃ A' c', e = .returned (.slice A' (digs (val xs * val ys)).length c') ∧ Dg w' A' c' (digs (val xs * val ys)) ∧ Below w.heap.size w w' := by
  have H := Lib.hid h
  have H' := Lib.hid h'
  have O1 := Lib.hid h.2.1
  have O2 := Lib.hid h'.2.1
  clear h h'
  have hmk := run_make_row' (P := Tryd.prog) 22 75 (.int .u32 0) 4 Tryd.underlying22 elem_info rfl .i64 .i64 (xs.length + ys.length) (by omega) (by omega)
  rw [show ((xs.length + ys.length : Nat) : Int) = (xs.length : Int) + (ys.length : Int) by omega] at hmk
  go_enter Tryd.func50, Tryd.ntmps50
  go_wp2
  go_loopw [6] (fun i wr => ∃ (k : Nat) (zs : List Nat), k ≤ xs.length ∧ i = .int .i64 k ∧ Row wr w.heap.size zs ∧ Hid (zs.length = xs.length + ys.length) ∧ ok32 zs ∧
    Hid (val (zs.take (k + ys.length)) = val (xs.take k) * val ys) ∧ Below w.heap.size w wr) (fun i _ => xs.length - (intOf i).toNat)
  case atStart => exact ⟨0, List.replicate (xs.length + ys.length) 0, Nat.zero_le _, rfl, Row.made _ _, by simp [Hid], ok_zeros _, by simp [Hid, val, List.take_replicate, val_zeros], (Below.refl _ _).alloc (Nat.le_refl _) _⟩
  case round =>
    obtain ⟨i, z0, hix, rfl, hrow0, HL0, hok0, HE0, hbel0⟩ := hrel
    by_cases hlt : i < xs.length
    · obtain ⟨b, off, hA, hb, hcx⟩ := H.out.2.2 (by omega)
      have hx0 := hcx i (by omega)
      have hX := getD_lt O1.out i
      generalize ex : xs[i]?.getD 0 = x at *
      have HX := Lib.hid ex
      clear ex hcx
      subst hA
      have HR0 := Lib.hid hrow0
      have HB0 := Lib.hid hbel0
      have hsz := hbel0.size
      clear hrow0 hbel0
      obtain ⟨wo, rfl⟩ : ∃ wo : World, wo = wr := ⟨_, rfl⟩
      go_wp2
      go_loopw [7, 8] (fun cy kk wr => ∃ (k cc : Nat) (zs : List Nat), k ≤ ys.length ∧ kk = .int .i64 k ∧ cy = .int .u64 cc ∧ cc < 4294967296 ∧ Row wr w.heap.size zs ∧ Hid (zs.length = z0.length) ∧ ok32 zs ∧ Hid (∀ j, i + k ≤ j → zs[j]? = z0[j]?) ∧
        Hid (val (zs.take (i + k)) + 4294967296 ^ (i + k) * cc = val (z0.take (i + k)) + 4294967296 ^ i * (val (ys.take k) * x)) ∧ Below w.heap.size wo wr) (fun _ kk _ => ys.length - (intOf kk).toNat)
      case atStart => exact ⟨0, 0, z0, Nat.zero_le _, rfl, rfl, by omega, HR0.out, by simp [Hid], hok0, by simp [Hid], by simp [Hid, val], Below.refl _ _⟩
      case round =>
        obtain ⟨k, cc, zs, hk, rfl, rfl, hc, hrow, HL, hok, HJ, HE, hbel⟩ := hrel
        have hx := ((HB0.out.trans hbel).cell (p := ⟨b, off + i, none⟩) hb).trans hx0
        by_cases hlk : k < ys.length
        · obtain ⟨b', off', hB, hb', hcy⟩ := H'.out.2.2 (by omega)
          have hy := ((HB0.out.trans hbel).cell (p := ⟨b', off' + k, none⟩) hb').trans (hcy k (by omega))
          have hY := getD_lt O2.out k
          have hcell := hrow.cell (i := i + k) (by have := HL.out; have := HL0.out; omega)
          have hfr := hrow.frozen (i + k)
          have hZ := getD_lt hok (i + k)
          generalize ez : zs[i + k]?.getD 0 = z at *
          generalize ey : ys[k]?.getD 0 = y at *
          have HZ := Lib.hid ez
          have HY := Lib.hid ey
          have hp0 : 0 ≤ (x : Int) * (y : Int) := by rw [← Int.natCast_mul]; omega
          have hpn : x * y ≤ 18446744065119617025 := Nat.le_trans (Nat.mul_le_mul (Nat.le_of_lt_succ hX) (Nat.le_of_lt_succ hY)) (by decide)
          have hp1 : (x : Int) * (y : Int) ≤ 18446744065119617025 := by rw [← Int.natCast_mul]; omega
          have hki : (i : Int) + (k : Int) < (xs.length : Int) + (ys.length : Int) := by omega
          have hk0 : (0 : Int) ≤ (i : Int) + (k : Int) := by omega
          have hw : IntKind.i64.wrap ((i : Int) + (k : Int)) = (i : Int) + (k : Int) := IntWalk.i64_in _ (by omega)
          clear ez ey hcy hpn
          subst hB
          go_wp2
          go_quiet (fail)
          go_wp2
          go_roundw
          case rel =>
            have ep : (x : Int) * (y : Int) = ((y * x : Nat) : Int) := by rw [← Int.natCast_mul, Nat.mul_comm]
            have e1 : ((x : Int) * (y : Int) + (z : Int) + (cc : Int)) % 4294967296 = (lo (z + y * x + cc) : Nat) := by rw [ep]; unfold lo; omega
            have e2 : ((x : Int) * (y : Int) + (z : Int) + (cc : Int)) / 4294967296 = (hi (z + y * x + cc) : Nat) := by rw [ep]; unfold hi; omega
            have hlh := lo_hi (z + y * x + cc)
            have hlo := lo_lt (z + y * x + cc)
            have hyx : y * x ≤ 18446744065119617025 := by have : ((y * x : Nat) : Int) ≤ 18446744065119617025 := by rw [← ep]; exact hp1
                                                          omega
            have hhi : hi (z + y * x + cc) < 4294967296 := by unfold hi; omega
            have hl1 := HL.out
            have hl0 := HL0.out
            refine ⟨k + 1, hi (z + y * x + cc), zs.set (i + k) (lo (z + y * x + cc)), hlk, by go_num, by rw [e2], hhi, (hrow.drewN _).set_int e1, by simp only [List.length_set]; exact HL, ok_set hok hlo _, fun j hj => ?_, ?_, ?_⟩
            · rw [get_set_other (by omega)]; exact HJ.out j (by omega)
            · refine row_step (by omega) (by omega) hlk hl1 HE.out ?_ rfl
              rw [← HJ.out _ (Nat.le_refl _), HZ.out, HY.out]
              exact hlh
            · exact (below_drewN hbel _).setCell (by simp) _
          case measure => simp [intOf]; omega
        · have hk' : k = ys.length := by omega
          subst hk'
          have hcell := hrow.cell (i := i + ys.length) (by have := HL.out; have := HL0.out; omega)
          have hfr := hrow.frozen (i + ys.length)
          have hki : (i : Int) + (ys.length : Int) < (xs.length : Int) + (ys.length : Int) := by omega
          have hk0 : (0 : Int) ≤ (i : Int) + (ys.length : Int) := by omega
          clear hlk
          go_wp2
          go_roundw
          case rel =>
            have hl1 := HL.out
            have hl0 := HL0.out
            have hE := HE.out
            rw [List.take_of_length_le (Nat.le_refl ys.length)] at hE
            have e1 : (cc : Int) % 4294967296 = (cc : Nat) := by omega
            exact ⟨i + 1, zs.set (i + ys.length) cc, hlt, by go_num, by first | exact hrow.set_ _ _ | exact hrow.set_int e1, by simp only [List.length_set]; exact hl1.trans hl0, ok_set hok hc _,
              mul_step (by omega) hl1 hlt HE0.out (by rw [HX.out]; exact hE), (HB0.out.trans hbel).setCell (by simp) _⟩
          case measure => simp [intOf]; omega
    · have hk' : i = xs.length := by omega
      subst hk'
      have HV := Lib.hid (show val z0 = val xs * val ys from by
        have := HE0.out
        rw [List.take_of_length_le (Nat.le_refl xs.length), List.take_of_length_le (by have := HL0.out; omega : z0.length ≤ xs.length + ys.length)] at this
        exact this)
      have HD := Lib.hid (rtrim_any (some ⟨w.heap.size, 0, none⟩) (xs.length + ys.length) z0 wr (hrow0.dg hok0 (by have := HL0.out; omega)) (by have := HL0.out; omega))
      rw [HV.out] at HD
      have HLZ := HL0.out
      rw [HLZ] at HD
      clear hlt HLZ
      go_wp2_with fail
      refine HD.out.mono ?_
      rintro e w2 ⟨A3, c3, rfl, h3, hb3⟩
      have H3 := Lib.hid h3
      have HB3 := Lib.hid hb3
      clear h3 hb3
      go_wp2
      go_ret
      exact ⟨A3, c3, rfl, H3.out, hbel0.trans (HB3.out.mono hbel0.size)⟩
end Go.Proofs.YthgkdpfkaobgoaaDoor
end

section
/-
  The reference's own text (astrolaberef01): Shl, Shr.
-/
namespace Go.Proofs.YthgkdpfkaobgoaaDoor
open Go.RowKit
theorem rshl_or (x c p : Nat) (hx : x < 4294967296) (hc : c < 2 ^ p) (hp : p < 32) :
    bits BinOp.or IntKind.u64 (IntKind.u64.wrap ((x : Int) * 2 ^ p)) (c : Int) = ((x * 2 ^ p + c : Nat) : Int) ∧ x * 2 ^ p + c < 18446744073709551616 := by
  have hpl : 2 ^ p < 4294967296 := Nat.pow_lt_pow_right (by omega) (by omega : p < 32)
  have hm : x * 2 ^ p ≤ 4294967295 * 4294967295 := Nat.mul_le_mul (by omega) (by omega)
  have e : IntKind.u64.wrap ((x : Int) * 2 ^ p) = ((x * 2 ^ p : Nat) : Int) := by
    have e1 : (x : Int) * 2 ^ p = ((x * 2 ^ p : Nat) : Int) := by rw [Int.natCast_mul, Int.natCast_pow]; rfl
    have e2 : ∀ m : Int, IntKind.u64.wrap m = m % 18446744073709551616 := fun m => by simp [IntKind.wrap, IntKind.bits, IntKind.signed]
    rw [e1, e2]; omega
  refine ⟨?_, by omega⟩
  rw [e, u64_or_nat _ _ (by omega) (by omega), nat_join p _ _ (Nat.mul_mod_left _ _) hc]
theorem rshl_step {zs xs : List Nat} {k W p c t d : Nat} (hz : zs.length = W + k) (h : val zs + 4294967296 ^ (W + k) * c = 4294967296 ^ W * (val (xs.take k) * 2 ^ p))
    (hs : t + 4294967296 * d = (xs[k]?.getD 0) * 2 ^ p + c) : val (zs ++ [t]) + 4294967296 ^ (W + (k + 1)) * d = 4294967296 ^ W * (val (xs.take (k + 1)) * 2 ^ p) := by
  rw [← Nat.add_assoc, val_take_step, val_snoc, hz, Nat.pow_succ, Nat.add_mul, Nat.mul_add, ← h]
  have e1 : 4294967296 ^ W * (4294967296 ^ k * (xs[k]?.getD 0) * 2 ^ p) = 4294967296 ^ (W + k) * (xs[k]?.getD 0 * 2 ^ p) := by
    rw [Nat.pow_add, Nat.mul_assoc, Nat.mul_assoc]
  have e2 : 4294967296 ^ (W + k) * t + 4294967296 ^ (W + k) * 4294967296 * d = 4294967296 ^ (W + k) * (xs[k]?.getD 0 * 2 ^ p) + 4294967296 ^ (W + k) * c := by
    rw [Nat.mul_assoc, ← Nat.mul_add, hs, Nat.mul_add]
  rw [e1]
  omega
theorem own_zeros {w : World} {e : TypeId} (n : Nat) (hm : n ≤ maxLen) : (w.alloc (.cells (madeCells #[.int .u32 0] n) e)).ownsRow w.heap.size e 1 (.slice (some ⟨w.heap.size, 0, none⟩) n n) n (cells (List.replicate n 0)) := by
  refine ⟨by simp [cells], .inr ⟨w.heap.size, n, madeCells #[.int .u32 0] n, rfl, Nat.le_refl _, heap_alloc_new w _, Nat.le_refl _, hm, by simp [size_madeCells], ?_⟩⟩
  apply List.ext_getElem
  · simp [madeCells, cells]
  · intro i h1 h2
    simp [madeCells, cells, Nat.mod_one]
set_option maxHeartbeats 1000000 in
set_option maxRecDepth 100000 in
theorem rshl_no (A : Option Addr) (c : Nat) (xs : List Nat) (n : Int) (w : World) (hn : n < 0 ∨ 100000 < n) :
    Calls Tryd.prog 67 #[.slice A xs.length c, .int .i64 n] w fun e w' => e = .returned (.tuple #[.slice none 0 0, .bool false]) ∧ w = w' := by
  by_cases h : n < 0
  · have d0 : decide (n < 0) = true := by simp [h]
    go_enter Tryd.func67, Tryd.ntmps67
    go_wp2
    go_ret2
    exact ⟨rfl, rfl⟩
  · have d0 : decide (n < 0) = false := by simp; omega
    have d1 : decide (100000 < n) = true := by simp; omega
    clear h hn
    go_enter Tryd.func67, Tryd.ntmps67
    go_wp2
    go_ret2
    exact ⟨rfl, rfl⟩
set_option maxHeartbeats 4000000 in
set_option maxRecDepth 100000 in
theorem rshl_any (A : Option Addr) (c : Nat) (xs : List Nat) (n : Nat) (w : World) (h : Dg w A c xs) (hl : xs.length ≤ 1048576) (hn : n ≤ 100000) :
    Calls Tryd.prog 67 #[.slice A xs.length c, .int .i64 n] w fun e w' => ∃ A' c', e = .returned (.tuple #[.slice A' (digs (val xs * 2 ^ n)).length c', .bool true]) ∧ Dg w' A' c' (digs (val xs * 2 ^ n)) ∧ Below w.heap.size w w' := by
  obtain ⟨i0, hinf, hz0, hz1, hz2⟩ := info_parts elem_info
  have H := Lib.hid h
  have O1 := Lib.hid h.2.1
  have HP := Lib.hid (pow_parts n)
  clear h
  have d0 : decide ((n : Int) < 0) = false := by simp
  have d1 : decide (100000 < (n : Int)) = false := by simp; omega
  have hmk := run_make_row' (P := Tryd.prog) 22 75 (.int .u32 0) 4 Tryd.underlying22 elem_info rfl .i64 .i64 (n / 32) (by omega) (by omega)
  rw [show ((n / 32 : Nat) : Int) = (n : Int) / 32 by omega] at hmk
  go_enter Tryd.func67, Tryd.ntmps67
  go_wp2
  go_loopw [6, 7, 8] (fun v cy i wr => ∃ (k z : Nat) (zs : List Nat), k ≤ xs.length ∧ i = .int .i64 k ∧ cy = .int .u64 z ∧ Hid (z < 2 ^ (n % 32)) ∧ z < 4294967296 ∧ wr.ownsRow w.heap.size 75 1 v (n / 32 + k) (cells zs) ∧ Hid (zs.length = n / 32 + k) ∧ ok32 zs ∧
    Hid (val zs + 4294967296 ^ (n / 32 + k) * z = 4294967296 ^ (n / 32) * (val (xs.take k) * 2 ^ (n % 32))) ∧ Below w.heap.size w wr) (fun _ _ i _ => xs.length - (intOf i).toNat)
  case atStart => exact ⟨0, 0, List.replicate (n / 32) 0, Nat.zero_le _, rfl, rfl, Nat.pow_pos (by omega), by omega, own_zeros _ (by unfold maxLen; omega), by simp [Hid], ok_zeros _, by simp [Hid, val, val_zeros], (Below.refl _ _).alloc (Nat.le_refl _) _⟩
  case round =>
    obtain ⟨k, z, zs, hk, rfl, rfl, hz, hz', hown, HL, hok, HE, hbel⟩ := hrel
    by_cases hlt : k < xs.length
    · obtain ⟨b, off, hA, hb, hcx⟩ := H.out.2.2 (by omega)
      have hx := (hbel.cell (p := ⟨b, off + k, none⟩) hb).trans (hcx k (by omega))
      have hX := getD_lt O1.out k
      generalize ex : xs[k]?.getD 0 = x at *
      have HX := Lib.hid ex
      clear ex hcx
      subst hA
      obtain ⟨ho, hs64⟩ := rshl_or x z (n % 32) hX hz (by omega)
      have hcd : x * 2 ^ (n % 32) + z < 4294967296 * 2 ^ (n % 32) := by
        have : x * 2 ^ (n % 32) + 2 ^ (n % 32) ≤ 4294967296 * 2 ^ (n % 32) := by
          calc x * 2 ^ (n % 32) + 2 ^ (n % 32) = (x + 1) * 2 ^ (n % 32) := by rw [Nat.add_mul, Nat.one_mul]
            _ ≤ 4294967296 * 2 ^ (n % 32) := Nat.mul_le_mul_right _ hX
        have := hz
        unfold Hid at this
        omega
      obtain ⟨s, hs⟩ : ∃ s, s = x * 2 ^ (n % 32) + z := ⟨_, rfl⟩
      rw [← hs] at ho hs64 hcd
      have HS := Lib.hid hs
      have HO := Lib.hid ho
      have HCD := Lib.hid hcd
      clear hs ho hcd
      go_upto_region 9 with fail
      rw [HO.out]
      go_wp2_with (at_builtin; refine wpList_append_own _ rfl _ _ 22 rfl w.heap.size 75 i0 (.int .u32 0) 1 4 Tryd.underlying22 hinf hz0 hz1 hz2 rfl (by decide) _ _ _ rfl (hown.alloc _) ⟨wr.heap.size, 0, none⟩ 1 1 [.int .u32 ((s : Int) % 4294967296)] rfl rfl (cell_new _ _ _) (fun u hu => by simp at hu; subst hu; rfl) (by unfold maxLen; omega) (by omega) (by have := hbel.size; simp; omega) ?_)
      intro v' w1 hown1 hgrow hnil
      have e1 : (s : Int) % 4294967296 = (lo s : Nat) := by unfold lo; omega
      have hown2 := Lib.hid (own_snoc hown1 e1)
      have hb1 := Lib.hid ((hbel.alloc hbel.size _).grown hgrow (by simp; have := hbel.size; omega) (fun g hg => (hown.lt g hg).1))
      clear hown1 hgrow hnil hown e1
      go_wp2
      go_roundw
      case rel =>
        have hp := lo_hi s
        have hq := lo_lt s
        have e2 : (s : Int) / 4294967296 = (hi s : Nat) := by unfold hi; omega
        have hh : hi s < 2 ^ (n % 32) := by unfold hi; rw [Nat.div_lt_iff_lt_mul (by omega), Nat.mul_comm]; exact HCD.out
        exact ⟨k + 1, hi s, zs ++ [lo s], hlt, by go_num, by rw [e2], hh, by unfold hi; omega, hown2.out, by have := HL.out; simp [Hid]; omega, ok_snoc hok hq,
          rshl_step HL.out HE.out (by rw [HX.out, hp, HS.out]), hb1.out⟩
      case measure => simp [intOf]; omega
    · have hk' : k = xs.length := by omega
      subst hk'
      clear hlt
      go_wp2_with (at_builtin; refine wpList_append_own _ rfl _ _ 22 rfl w.heap.size 75 i0 (.int .u32 0) 1 4 Tryd.underlying22 hinf hz0 hz1 hz2 rfl (by decide) _ _ _ rfl (hown.alloc _) ⟨wr.heap.size, 0, none⟩ 1 1 [.int .u32 (z : Int)] rfl rfl (cell_new _ _ _) (fun u hu => by simp at hu; subst hu; rfl) (by unfold maxLen; omega) (by omega) (by have := hbel.size; simp; omega) ?_)
      intro v' w1 hown1 hgrow hnil
      have hown2 := own_snoc hown1 (t := z) rfl
      have hb1 := (hbel.alloc hbel.size (.cells #[.int .u32 (z : Int)] 75)).grown hgrow (by simp; have := hbel.size; omega) (fun g hg => (hown.lt g hg).1)
      have hok' := ok_snoc hok hz'
      obtain ⟨A2, c2, hv, hd⟩ := dg_of_own hown2 hok'
      have HV := Lib.hid (show val (zs ++ [z]) = val xs * 2 ^ n from by
        have := HE.out
        rw [List.take_of_length_le (Nat.le_refl xs.length)] at this
        rw [val_snoc, HL.out, this, ← HP.out, Nat.mul_left_comm])
      have HD := Lib.hid (rtrim_any A2 c2 (zs ++ [z]) w1 hd (by have := HL.out; simp; omega))
      rw [HV.out] at HD
      have HB1 := Lib.hid hb1
      clear hown hown1 hown2 hd hgrow hnil hok' hb1 HV
      generalize zs ++ [z] = ZS at *
      rw [hv]
      clear hv
      go_wp2_with fail
      refine HD.out.mono ?_
      rintro e w2 ⟨A3, c3, rfl, h3, hb3⟩
      have H3 := Lib.hid h3
      have HB3 := Lib.hid hb3
      clear h3 hb3
      go_wp2
      go_ret2
      exact ⟨A3, c3, rfl, H3.out, HB1.out.trans (HB3.out.mono HB1.out.size)⟩
end Go.Proofs.YthgkdpfkaobgoaaDoor
end

section
/-
  The reference's own text (astrolaberef01): Shr.
-/
namespace Go.Proofs.YthgkdpfkaobgoaaDoor
open Go.RowKit
theorem rshr_step {zs ys : List Nat} {k p s : Nat} (hz : zs.length = k) (hk : k < ys.length) (hok : ok32 ys) (hp : p < 32) (h : val zs + 4294967296 ^ k * (val (ys.drop k) / 2 ^ p) = val ys / 2 ^ p)
    (hs : s = ys[k]?.getD 0 + 4294967296 * (ys[k + 1]?.getD 0)) : val (zs ++ [s / 2 ^ p % 4294967296]) + 4294967296 ^ (k + 1) * (val (ys.drop (k + 1)) / 2 ^ p) = val ys / 2 ^ p := by
  have hss := two_pow_split p (by omega)
  have hP : 0 < 2 ^ p := Nat.pow_pos (by omega)
  have e1 : s / 2 ^ p % 4294967296 = val (ys.drop k) / 2 ^ p % 4294967296 := by
    rw [hs, val_drop_cons hk, shr_math _ _ _ _ hss hP, shr_math _ _ _ _ hss hP, Nat.add_mul_mod_self_left, Nat.add_mul_mod_self_left]
    congr 2
    rw [← val_mod hok (k + 1), Nat.mod_mul_mod]
  have e2 : val (ys.drop k) / 2 ^ p / 4294967296 = val (ys.drop (k + 1)) / 2 ^ p := by
    rw [Nat.div_div_eq_div_mul, Nat.mul_comm, ← Nat.div_div_eq_div_mul, val_drop_cons hk]
    congr 1
    have := getD_lt hok k
    omega
  rw [val_snoc, hz, e1, ← e2, Nat.pow_succ, Nat.mul_assoc, Nat.add_assoc, ← Nat.mul_add, Nat.mod_add_div]
  exact h
set_option maxHeartbeats 1000000 in
set_option maxRecDepth 100000 in
theorem rshr_neg (A : Option Addr) (c : Nat) (xs : List Nat) (n : Int) (w : World) (h : Dg w A c xs) (hl : xs.length ≤ 1048576) (hn : n < 0) :
    Calls Tryd.prog 68 #[.slice A xs.length c, .int .i64 n] w fun e w' => ∃ A' c', e = .returned (.slice A' (digs (val xs)).length c') ∧ Dg w' A' c' (digs (val xs)) ∧ Below w.heap.size w w' := by
  have HT := Lib.hid (rtrim_any A c xs w h (by omega))
  clear h
  have d0 : decide (n < 0) = true := by simp [hn]
  go_enter Tryd.func68, Tryd.ntmps68
  go_wp2_with fail
  refine HT.out.mono ?_
  rintro e w' ⟨A1, c1, rfl, h1, hb⟩
  have H1 := Lib.hid h1
  clear h1
  go_wp2
  go_ret
  exact ⟨A1, c1, rfl, H1.out, hb⟩
set_option maxHeartbeats 4000000 in
set_option maxRecDepth 100000 in
theorem rshr_any (A : Option Addr) (c : Nat) (xs : List Nat) (n : Nat) (w : World) (h : Dg w A c xs) (hl : xs.length ≤ 1048576) (hn : n ≤ 9223372036854775807) :
    Calls Tryd.prog 68 #[.slice A xs.length c, .int .i64 n] w fun e w' => ∃ A' c', e = .returned (.slice A' (digs (val xs / 2 ^ n)).length c') ∧ Dg w' A' c' (digs (val xs / 2 ^ n)) ∧ Below w.heap.size w w' := by
  obtain ⟨i0, hinf, hz0, hz1, hz2⟩ := info_parts elem_info
  have H := Lib.hid h
  have O1 := Lib.hid h.2.1
  clear h
  have d0 : decide ((n : Int) < 0) = false := by simp
  have HN := Lib.hid hn
  by_cases hw : xs.length ≤ n / 32
  · have d1 : decide ((xs.length : Int) ≤ (n : Int) / 32) = true := by simp; omega
    have HF := Lib.hid (show val xs / 2 ^ n = 0 from by
      rw [← shr_pow, ← val_drop xs O1.out, List.drop_eq_nil_of_le hw]; simp [val])
    clear hw
    go_enter Tryd.func68, Tryd.ntmps68
    go_wp2
    go_ret
    rw [HF.out, digs_zero]
    exact ⟨none, 0, rfl, Dg.nil_ _ _, Below.refl _ _⟩
  · have d1 : decide ((xs.length : Int) ≤ (n : Int) / 32) = false := by simp; omega
    have HVY := Lib.hid (show val (xs.drop (n / 32)) / 2 ^ (n % 32) = val xs / 2 ^ n from by rw [val_drop xs O1.out, shr_pow])
    have hyl : (xs.drop (n / 32)).length = xs.length - n / 32 := List.length_drop
    have HG := Lib.hid (fun j => show (xs.drop (n / 32))[j]?.getD 0 = xs[n / 32 + j]?.getD 0 from by rw [List.getElem?_drop])
    have OY := Lib.hid (show ok32 (xs.drop (n / 32)) from fun x hx => O1.out x (List.mem_of_mem_drop hx))
    have HYL := Lib.hid hyl
    clear hyl
    generalize xs.drop (n / 32) = Y at *
    go_enter Tryd.func68, Tryd.ntmps68
    go_wp2
    go_loopw [5, 6] (fun v i wr => ∃ (k : Nat) (zs : List Nat), n / 32 + k ≤ xs.length ∧ i = .int .i64 ((n : Int) / 32 + k) ∧ wr.ownsRow w.heap.size 75 1 v k (cells zs) ∧ Hid (zs.length = k) ∧ ok32 zs ∧
      Hid (val zs + 4294967296 ^ k * (val (Y.drop k) / 2 ^ (n % 32)) = val Y / 2 ^ (n % 32)) ∧ Below w.heap.size w wr) (fun _ i _ => xs.length - (intOf i).toNat)
    case atStart => exact ⟨0, [], by omega, by go_num, World.ownsRow_nil _ _ _ _, by simp [Hid], by intro x hx; simp at hx, by simp [Hid, val], Below.refl _ _⟩
    case round =>
      obtain ⟨k, zs, hk, rfl, hown, HL, hok, HE, hbel⟩ := hrel
      by_cases hlt : n / 32 + k < xs.length
      · have dlt : decide ((n : Int) / 32 + (k : Int) < (xs.length : Int)) = true := by simp; omega
        have rx := Lib.hid (rat_any A c xs (n / 32 + k) wr (H.out.keep hbel.size (fun b o h => hbel.cell (p := ⟨b, o, none⟩) h)) (by omega))
        have ry := Lib.hid (rat_any A c xs (n / 32 + k + 1) wr (H.out.keep hbel.size (fun b o h => hbel.cell (p := ⟨b, o, none⟩) h)) (by omega))
        have hX := getD_lt O1.out (n / 32 + k)
        have hY := getD_lt O1.out (n / 32 + k + 1)
        have g0 := HG.out k
        have g1 := HG.out (k + 1)
        rw [← Nat.add_assoc] at g1
        have HG0 := Lib.hid g0
        have HG1 := Lib.hid g1
        clear g0 g1
        generalize xs[n / 32 + k]?.getD 0 = x at *
        generalize xs[n / 32 + k + 1]?.getD 0 = y at *
        have ho := or_join' x y hX hY
        obtain ⟨s, hs⟩ : ∃ s, s = x + 4294967296 * y := ⟨_, rfl⟩
        have hs64 : s < 18446744073709551616 := by omega
        rw [← hs] at ho
        have HS := Lib.hid hs
        have HO := Lib.hid ho
        clear hs ho
        rw [show ((n / 32 + k : Nat) : Int) = (n : Int) / 32 + (k : Int) by omega] at rx
        rw [show ((n / 32 + k + 1 : Nat) : Int) = (n : Int) / 32 + (k : Int) + 1 by omega] at ry
        have hp0 : (0 : Int) ≤ (n : Int) / 32 + (k : Int) := by omega
        go_wp2_with fail
        refine rx.out.mono ?_
        rintro e w' ⟨rfl, rfl⟩
        go_wp2_with fail
        refine ry.out.mono ?_
        rintro e w' ⟨rfl, rfl⟩
        go_upto_region 10 with fail
        rw [HO.out]
        have hd0 : 0 ≤ (s : Int) / 2 ^ (n % 32) := Int.ediv_nonneg (by omega) (Int.le_of_lt (Int.pow_pos (by omega)))
        go_wp2_with (at_builtin; refine wpList_append_own _ rfl _ _ 22 rfl w.heap.size 75 i0 (.int .u32 0) 1 4 Tryd.underlying22 hinf hz0 hz1 hz2 rfl (by decide) _ _ _ rfl (hown.alloc _) ⟨wr.heap.size, 0, none⟩ 1 1 [.int .u32 (((s : Int) / 2 ^ (n % 32)) % 4294967296)] rfl rfl (cell_new _ _ _) (fun u hu => by simp at hu; subst hu; rfl) (by unfold maxLen; omega) (by omega) (by have := hbel.size; simp; omega) ?_)
        intro v' w1 hown1 hgrow hnil
        have e1 : ((s : Int) / 2 ^ (n % 32)) % 4294967296 = (s / 2 ^ (n % 32) % 4294967296 : Nat) := by rw [Int.natCast_emod, Int.natCast_ediv, Int.natCast_pow]; rfl
        have hown2 := Lib.hid (own_snoc hown1 e1)
        have hb1 := Lib.hid ((hbel.alloc hbel.size _).grown hgrow (by simp; have := hbel.size; omega) (fun g hg => (hown.lt g hg).1))
        clear hown1 hgrow hnil hown e1
        go_wp2
        go_roundw
        case rel =>
          have hyl := HYL.out
          exact ⟨k + 1, zs ++ [s / 2 ^ (n % 32) % 4294967296], by omega, by go_num, hown2.out, by have := HL.out; simp [Hid]; omega, ok_snoc hok (Nat.mod_lt _ (by omega)),
            rshr_step HL.out (by omega) OY.out (by omega) HE.out (by rw [HG0.out, HG1.out]; exact HS.out), hb1.out⟩
        case measure => simp [intOf]; omega
      · have dlt : decide ((n : Int) / 32 + (k : Int) < (xs.length : Int)) = false := by simp; omega
        obtain ⟨A2, c2, hv, hd⟩ := dg_of_own hown hok
        have HV := Lib.hid (show val zs = val xs / 2 ^ n from by
          have := HE.out
          rw [List.drop_eq_nil_of_le (by have := HYL.out; omega), HVY.out] at this
          simpa [val] using this)
        have HD := Lib.hid (rtrim_any A2 c2 zs wr hd (by have := HL.out; omega))
        rw [HV.out] at HD
        subst hv
        clear hown hd hlt
        go_wp2_with fail
        refine HD.out.mono ?_
        rintro e w2 ⟨A3, c3, rfl, h3, hb3⟩
        have H3 := Lib.hid h3
        have HB3 := Lib.hid hb3
        clear h3 hb3
        go_wp2
        go_ret
        exact ⟨A3, c3, rfl, H3.out, hbel.trans (HB3.out.mono hbel.size)⟩
end Go.Proofs.YthgkdpfkaobgoaaDoor
end

section
/-
  The reference's calls (astrolaberef01) over what a law carries along.
-/
namespace Go.Proofs.YthgkdpfkaobgoaaDoor
open Go.RowKit
section
variable {w0 w w' : World} {L : List (Option Addr × Nat × List Nat)} {A B : Option Addr} {c d n m : Nat} {xs ys : List Nat} {x y : Nat}
theorem Live.none_ (h : Live w0 w L) : Live w0 w ((none, 0, []) :: L) := h.add (Dg.nil_ _ _)
theorem radd_l (hL : Live w0 w L) (h1 : (A, c, xs) ∈ L) (h2 : (B, d, ys) ∈ L) (hn : n = xs.length) (hm : m = ys.length) (hx : val xs = x) (hy : val ys = y) (b1 : xs.length ≤ 1048576) (b2 : ys.length ≤ 1048576) :
    Calls Tryd.prog 47 #[.slice A n c, .slice B m d] w fun e w' => ∃ A' c', e = .returned (.slice A' (digs (x + y)).length c') ∧ Live w0 w' ((A', c', digs (x + y)) :: L) := by
  subst hn hm hx hy
  exact (radd_any A B c d xs ys w (hL.get h1) (hL.get h2) b1 b2).mono fun e w' ⟨A', c', he, hd, hb⟩ => ⟨A', c', he, (hL.step hb).add hd⟩
theorem rmul_l (hL : Live w0 w L) (h1 : (A, c, xs) ∈ L) (h2 : (B, d, ys) ∈ L) (hn : n = xs.length) (hm : m = ys.length) (hx : val xs = x) (hy : val ys = y) (b1 : xs.length ≤ 1048576) (b2 : ys.length ≤ 1048576) :
    Calls Tryd.prog 50 #[.slice A n c, .slice B m d] w fun e w' => ∃ A' c', e = .returned (.slice A' (digs (x * y)).length c') ∧ Live w0 w' ((A', c', digs (x * y)) :: L) := by
  subst hn hm hx hy
  exact (rmul_any A B c d xs ys w (hL.get h1) (hL.get h2) b1 b2).mono fun e w' ⟨A', c', he, hd, hb⟩ => ⟨A', c', he, (hL.step hb).add hd⟩
theorem rsub_l (hL : Live w0 w L) (h1 : (A, c, xs) ∈ L) (h2 : (B, d, ys) ∈ L) (hn : n = xs.length) (hm : m = ys.length) (hx : val xs = x) (hy : val ys = y) (b1 : xs.length ≤ 1048576) (b2 : ys.length ≤ 1048576) (hle : y ≤ x) :
    Calls Tryd.prog 48 #[.slice A n c, .slice B m d] w fun e w' => ∃ A' c', e = .returned (.tuple #[.slice A' (digs (x - y)).length c', .bool true]) ∧ Live w0 w' ((A', c', digs (x - y)) :: L) := by
  subst hn hm hx hy
  exact (rsub_yes A B c d xs ys w (hL.get h1) (hL.get h2) b1 b2 hle).mono fun e w' ⟨A', c', he, hd, hb⟩ => ⟨A', c', he, (hL.step hb).add hd⟩
theorem rsub_l_no (hL : Live w0 w L) (h1 : (A, c, xs) ∈ L) (h2 : (B, d, ys) ∈ L) (hn : n = xs.length) (hm : m = ys.length) (hx : val xs = x) (hy : val ys = y) (b1 : xs.length ≤ 1048576) (b2 : ys.length ≤ 1048576) (hlt : x < y) :
    Calls Tryd.prog 48 #[.slice A n c, .slice B m d] w fun e w' => e = .returned (.tuple #[.slice none 0 0, .bool false]) ∧ Live w0 w' L := by
  subst hn hm hx hy
  exact (rsub_no A B c d xs ys w (hL.get h1) (hL.get h2) b1 b2 hlt).mono fun e w' ⟨he, hw⟩ => ⟨he, by rw [← hw]; exact hL⟩
theorem rcmp_l {q : Int} (hL : Live w0 w L) (h1 : (A, c, xs) ∈ L) (h2 : (B, d, ys) ∈ L) (hn : n = xs.length) (hm : m = ys.length) (hx : val xs = x) (hy : val ys = y) (b1 : xs.length ≤ 1048576) (b2 : ys.length ≤ 1048576) (hq : cmpi x y = q) :
    Calls Tryd.prog 59 #[.slice A n c, .slice B m d] w fun e w' => e = .returned (.int .i64 q) ∧ Live w0 w' L := by
  subst hn hm hx hy hq
  exact (rcmp_any A B c d xs ys w (hL.get h1) (hL.get h2) (by omega) (by omega)).mono fun e w' ⟨he, hw⟩ => ⟨he, by rw [← hw]; exact hL⟩
theorem rbits_l {q : Int} (hL : Live w0 w L) (h1 : (A, c, xs) ∈ L) (hn : n = xs.length) (hx : val xs = x) (b1 : xs.length ≤ 1048576) (hq : (blen x : Int) = q) :
    Calls Tryd.prog 84 #[.slice A n c] w fun e w' => e = .returned (.int .i64 q) ∧ Live w0 w' L := by
  subst hn hx hq
  exact (rbits_any A c xs w (hL.get h1) (by omega)).mono fun e w' ⟨he, hb⟩ => ⟨he, hL.step hb⟩
theorem rtrim_l (hL : Live w0 w L) (h1 : (A, c, xs) ∈ L) (hn : n = xs.length) (hx : val xs = x) (b1 : xs.length ≤ 1048576) :
    Calls Tryd.prog 54 #[.slice A n c] w fun e w' => ∃ A' c', e = .returned (.slice A' (digs x).length c') ∧ Live w0 w' ((A', c', digs x) :: L) := by
  subst hn hx
  exact (rtrim_any A c xs w (hL.get h1) (by omega)).mono fun e w' ⟨A', c', he, hd, hb⟩ => ⟨A', c', he, (hL.step hb).add hd⟩
theorem rfrom_l {i : Int} {k : Nat} (hL : Live w0 w L) (hi : i = (k : Int)) (hk : k < 18446744073709551616) :
    Calls Tryd.prog 52 #[.int .u64 i] w fun e w' => ∃ A' c', e = .returned (.slice A' (digs k).length c') ∧ Live w0 w' ((A', c', digs k) :: L) := by
  subst hi
  exact (rfrom_any k w hk).mono fun e w' ⟨A', c', he, hd, hb⟩ => ⟨A', c', he, (hL.step hb).add hd⟩
theorem small_g {q : Int} {p : Bool} (hL : Live w0 w L) (h1 : (A, c, xs) ∈ L) (hn : n = xs.length) (hx : val xs = x) (b1 : xs.length ≤ 1048576) (hq : (small? x : Int) = q) (hp : decide (x < 18446744073709551616) = p) :
    Calls Tryd.prog 55 #[.slice A n c] w fun e w' => e = .returned (.tuple #[.int .u64 q, .bool p]) ∧ Live w0 w' L := by
  subst hn hx hq hp
  exact (small_any A c xs w (hL.get h1) (by omega)).mono fun e w' ⟨he, k, hw⟩ => ⟨he, by rw [hw]; exact hL.drewN k⟩
theorem rsmall_g {q : Int} {p : Bool} (hL : Live w0 w L) (h1 : (A, c, xs) ∈ L) (hn : n = xs.length) (hx : val xs = x) (b1 : xs.length ≤ 1048576) (hq : (small? x : Int) = q) (hp : decide (x < 18446744073709551616) = p) :
    Calls Tryd.prog 56 #[.slice A n c] w fun e w' => e = .returned (.tuple #[.int .u64 q, .bool p]) ∧ Live w0 w' L := by
  subst hn hx hq hp
  exact (rsmall_any A c xs w (hL.get h1) (by omega)).mono fun e w' ⟨he, hb⟩ => ⟨he, hL.step hb⟩
theorem rshl_l {i : Int} {k : Nat} (hL : Live w0 w L) (h1 : (A, c, xs) ∈ L) (hn : n = xs.length) (hx : val xs = x) (b1 : xs.length ≤ 1048576) (hi : i = (k : Int)) (hk : k ≤ 100000) :
    Calls Tryd.prog 67 #[.slice A n c, .int .i64 i] w fun e w' => ∃ A' c', e = .returned (.tuple #[.slice A' (digs (x * 2 ^ k)).length c', .bool true]) ∧ Live w0 w' ((A', c', digs (x * 2 ^ k)) :: L) := by
  subst hn hx hi
  exact (rshl_any A c xs k w (hL.get h1) b1 hk).mono fun e w' ⟨A', c', he, hd, hb⟩ => ⟨A', c', he, (hL.step hb).add hd⟩
theorem rshl_l_no {i : Int} (hL : Live w0 w L) (_h1 : (A, c, xs) ∈ L) (hn : n = xs.length) (hi : i < 0 ∨ 100000 < i) :
    Calls Tryd.prog 67 #[.slice A n c, .int .i64 i] w fun e w' => e = .returned (.tuple #[.slice none 0 0, .bool false]) ∧ Live w0 w' L := by
  subst hn
  exact (rshl_no A c xs i w hi).mono fun e w' ⟨he, hw⟩ => ⟨he, by rw [← hw]; exact hL⟩
theorem shl_l_no {i : Int} (hL : Live w0 w L) (_h1 : (A, c, xs) ∈ L) (hn : n = xs.length) (hi : i < 0 ∨ 100000 < i) :
    Calls Tryd.prog 65 #[.slice A n c, .int .i64 i] w fun e w' => e = .returned (.tuple #[.slice none 0 0, .bool false]) ∧ Live w0 w' L := by
  subst hn
  exact (shl_no A c xs i w hi).mono fun e w' ⟨he, hw⟩ => ⟨he, by rw [← hw]; exact hL⟩
theorem rshr_l {i : Int} {k : Nat} (hL : Live w0 w L) (h1 : (A, c, xs) ∈ L) (hn : n = xs.length) (hx : val xs = x) (b1 : xs.length ≤ 1048576) (hi : i = (k : Int)) (hk : k ≤ 9223372036854775807) :
    Calls Tryd.prog 68 #[.slice A n c, .int .i64 i] w fun e w' => ∃ A' c', e = .returned (.slice A' (digs (x / 2 ^ k)).length c') ∧ Live w0 w' ((A', c', digs (x / 2 ^ k)) :: L) := by
  subst hn hx hi
  exact (rshr_any A c xs k w (hL.get h1) b1 hk).mono fun e w' ⟨A', c', he, hd, hb⟩ => ⟨A', c', he, (hL.step hb).add hd⟩
theorem rshr_l_neg {i : Int} (hL : Live w0 w L) (h1 : (A, c, xs) ∈ L) (hn : n = xs.length) (hx : val xs = x) (b1 : xs.length ≤ 1048576) (hi : i < 0) :
    Calls Tryd.prog 68 #[.slice A n c, .int .i64 i] w fun e w' => ∃ A' c', e = .returned (.slice A' (digs x).length c') ∧ Live w0 w' ((A', c', digs x) :: L) := by
  subst hn hx
  exact (rshr_neg A c xs i w (hL.get h1) b1 hi).mono fun e w' ⟨A', c', he, hd, hb⟩ => ⟨A', c', he, (hL.step hb).add hd⟩
theorem shr_l_neg {i : Int} (hL : Live w0 w L) (h1 : (A, c, xs) ∈ L) (hn : n = xs.length) (hx : val xs = x) (b1 : xs.length ≤ 1048576) (hi : i < 0) :
    Calls Tryd.prog 66 #[.slice A n c, .int .i64 i] w fun e w' => ∃ A' c', e = .returned (.slice A' (digs x).length c') ∧ Live w0 w' ((A', c', digs x) :: L) := by
  subst hn hx
  exact (shr_neg A c xs i w (hL.get h1) b1 hi).mono fun e w' ⟨A', c', he, hd, hb⟩ => ⟨A', c', he, (hL.step hb).add hd⟩
end
end Go.Proofs.YthgkdpfkaobgoaaDoor
end

section
/-
  The law's short, same; astrolaberef04's Same, Make; zint.Right.
-/
namespace Go.Proofs.YthgkdpfkaobgoaaDoor
open Go.RowKit
set_option maxHeartbeats 2000000 in
set_option maxRecDepth 100000 in
theorem lshort_any (A : Option Addr) (c k : Nat) (s : Bool) (xs : List Nat) (w : World) (h : Dg w A c xs) (hk : k ≤ 1000000) :
    Calls Tryd.prog 13 #[.agg #[.bool s, .slice A xs.length c], .int .i64 k] w fun e w' => e = .returned (.agg #[.bool s, .slice A (xs.take k).length c]) ∧ Below w.heap.size w w' := by
  have hc := h.1
  obtain ⟨m, hm⟩ : ∃ m : Int, min (xs.length : Int) (k : Int) = m := ⟨_, rfl⟩
  have m0 : 0 ≤ m := by omega
  have m1 : m ≤ (c : Int) := by omega
  have HL := Lib.hid (show m.toNat = (xs.take k).length by rw [List.length_take]; omega)
  clear h
  go_enter Tryd.func13, Tryd.ntmps13
  go_wp2
  go_region_held3 (fun w' => w'.cell? ⟨w.heap.size, 0, none⟩ = some (.bool s) ∧ w'.cell? ⟨w.heap.size, 1, none⟩ = some (.slice A xs.length c)) (first | go_keep) (first | fail)
  all_goals go_wp2
  rw [HL.out]
  refine bodyPost_ret (v := .agg #[.bool s, .slice A (xs.take k).length c]) (by simp [results, Tryd.results13, go_sem]) rfl ⟨rfl, ?_⟩
  exact below_drew (below2 _ _ _)
set_option maxHeartbeats 2000000 in
set_option maxRecDepth 100000 in
theorem Same_any (A B : Option Addr) (c d : Nat) (s : Bool) (xs : List Nat) (w : World) (h : Dg w A c xs) (h' : Dg w B d xs) (hl : xs.length ≤ 16777216) :
    Calls Tryd.prog 43 #[.agg #[.bool s, .slice A xs.length c], .agg #[.bool s, .slice B xs.length d]] w fun e w' => e = .returned (.bool true) ∧ Below w.heap.size w w' := by
  have hne : ((xs.length : Int) != (xs.length : Int)) = false := by simp
  have hns : (s != s) = false := by simp
  have H1 := Lib.hid (h.below (below2 w (.cells #[.bool s, .slice A xs.length c] 24) (.cells #[.bool s, .slice B xs.length d] 24)))
  have H2 := Lib.hid (h'.below (below2 w (.cells #[.bool s, .slice A xs.length c] 24) (.cells #[.bool s, .slice B xs.length d] 24)))
  clear h h'
  go_enter Tryd.func43, Tryd.ntmps43
  go_wp2
  go_loopw [5] (fun i wr => (∃ k : Nat, k ≤ xs.length ∧ i = .int .i64 k) ∧ ∃ m, wr = ((w.alloc (.cells #[.bool s, .slice A xs.length c] 24)).alloc (.cells #[.bool s, .slice B xs.length d] 24)).drewN m) (fun i _ => xs.length - (intOf i).toNat)
  case atStart => exact ⟨⟨0, Nat.zero_le _, rfl⟩, 0, rfl⟩
  case round =>
    obtain ⟨⟨k, hk, rfl⟩, m, rfl⟩ := hrel
    by_cases hlt : k < xs.length
    · obtain ⟨b, off, hA, hb, hcx⟩ := H1.out.2.2 (by omega)
      obtain ⟨b', off', hB, hb', hcy⟩ := H2.out.2.2 (by omega)
      have hx := hcx k hlt
      have hy := hcy k hlt
      generalize xs[k]?.getD 0 = x at *
      have t1 : ((x : Int) != (x : Int)) = false := by simp
      clear hcx hcy H1 H2
      subst hA hB
      go_wp2_with fail
      go_quiet (fail)
      go_wp2_with fail
      go_roundw
      case rel => exact ⟨⟨k + 1, hlt, by go_num⟩, _, rfl⟩
      case measure => simp [intOf]; omega
    · go_wp2
      go_ret
      exact ⟨rfl, below_drewN (below2 _ _ _) m⟩
end Go.Proofs.YthgkdpfkaobgoaaDoor
end
