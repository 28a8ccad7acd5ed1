/-
  pager's settle, Commit.
-/
import Derived.Test.YtmgdpchjimlmeaaGj
namespace Go.Proofs.Ytmgdpchjimlmeaa
open Go.RowKit
set_option linter.unusedSimpArgs false
set_option linter.unusedVariables false
set_option maxHeartbeats 4000000 in
set_option maxRecDepth 100000 in
theorem settle_any {B p g gs bm k0 : Nat} {v m0 f0 : Value} {T0 R0 : Int} {U : Nat → Bool} {S : List (List UInt8)} {C : List Wt} (T R : Nat) (w : World) (hp : Pb w p T0 R0 m0 g f0) (hu : Us w bm k0 U) (h : Dk B w g gs v S C) (hS : 4 ≤ S.length) (hC : C.length ≤ 900) :
    Calls Try.prog 27 #[.pointer (some ⟨p, 0, none⟩), .agg #[.int .i64 (T : Int), .int .i64 (R : Int), .map (some bm)]] w fun e w' => e = .returned (.int .i64 0) ∧ Pb w' p T R (.map (some bm)) g (.slice none 0 0) ∧ Us w' bm k0 U ∧ Dk B w' g gs (.slice none 0 0) (flush (flush S C) (hdW T R U)) [] ∧ Cp B p g gs w w' := by
  obtain ⟨V, hV⟩ : ∃ V : World, V = w.alloc (.cells #[.int .i64 (T : Int), .int .i64 (R : Int), .map (some bm)] 62) := ⟨_, rfl⟩
  have hbV : Below w.heap.size w V := by rw [hV]; exact bda _ _
  have RV := Lib.hid (show V.heap[w.heap.size]? = some (.cells #[.int .i64 (T : Int), .int .i64 (R : Int), .map (some bm)] 62 (0, 0)) by rw [hV]; exact heap_alloc_new _ _)
  have PV := Lib.hid (show Pb V p T0 R0 m0 g f0 from row_on hp hbV)
  have UV := Lib.hid (hu.below hbV)
  have DV := Lib.hid (h.below hbV)
  have CV := Lib.hid (Cp.of_below (p := p) (g := g) (gs := gs) hbV h.hB)
  have PN := Lib.hid (h.p_ne hp)
  have HS := Lib.hid (show 4 ≤ (flush S C).length by rw [flush_len]; exact hS)
  have BR := Lib.hid (barrier_all V DV.out (by omega))
  have TOLD := Lib.hid (fun X => told_ok (p := p) X)
  have c3 : (w.alloc (.cells #[.int .i64 (T : Int), .int .i64 (R : Int), .map (some bm)] 62)).cell? ⟨p, 3, none⟩ = some (.pointer (some ⟨g, 0, none⟩)) := by rw [← hV]; exact row_c (i := 3) PV.out rfl
  clear hp hu h hS hC hbV
  go_enter Try.func27, Try.ntmps27
  go_wp2_with fail
  rw [← hV]
  clear hV
  refine BR.out.mono ?_
  rintro e w1 ⟨rfl, hd, hc⟩
  have P1 := Lib.hid (show Pb w1 p T0 R0 m0 g f0 from hc.stay PV.out (by decide) PN.out.1 PN.out.2)
  have U1 := Lib.hid (UV.out.ch DV.out (hc.narrow DV.out.hB))
  have C1 := Lib.hid (CV.out.trans (Cp.of_ch (p := p) (hc.narrow DV.out.hB)))
  have R1 := Lib.hid (show w1.heap[w.heap.size]? = some (.cells #[.int .i64 (T : Int), .int .i64 (R : Int), .map (some bm)] 62 (0, 0)) from hc.stay RV.out (by decide) (ne_rows RV.out DV.out.hg (by decide)) (ne_rows RV.out DV.out.hs (by decide)))
  have LY := Lib.hid (lay_any T R w1 P1.out U1.out hd HS.out (by simp))
  clear hd hc c3 BR
  go_wp2_with fail
  refine (TOLD.out _).mono ?_
  rintro e w2 ⟨rfl, hw⟩
  obtain rfl : w1 = w2 := hw.symm
  clear hw
  have b0 := row_c (i := 0) R1.out rfl
  have b1 := row_c (i := 1) R1.out rfl
  have b2 := row_c (i := 2) R1.out rfl
  go_wp2_with fail
  refine LY.out.mono ?_
  rintro e w3 ⟨rfl, hp3, hu3, hd3, hc3⟩
  have H3 := Lib.hid (And.intro hp3 (And.intro hu3 (And.intro hd3 hc3)))
  clear hp3 hu3 hd3 hc3 b0 b1 b2
  go_wp2
  go_ret
  exact ⟨rfl, H3.out.1, H3.out.2.1, H3.out.2.2.1, C1.out.trans H3.out.2.2.2⟩
theorem row_setG {w : World} {g i : Nat} {cs : Array Value} {T : TypeId} (h : w.heap[g]? = some (.cells cs T (0, 0))) (v : Value) : (w.setCell ⟨g, i, none⟩ v).heap[g]? = some (.cells (cs.setIfInBounds i v) T (0, 0)) := heap_setCell_same _ _ i _ _ v h
theorem Us.set {w : World} {b n g i : Nat} {U : Nat → Bool} {cs : Array Value} {T : TypeId} {fr : Nat × Nat} (h : Us w b n U) (hr : w.heap[g]? = some (.cells cs T fr)) (v : Value) : Us (w.setCell ⟨g, i, none⟩ v) b n U := by
  obtain ⟨es, cl, hb⟩ := h.isMap
  exact h.same (Below.heap_setCell _ _ _ _ (ne_map hb hr))
set_option maxHeartbeats 8000000 in
set_option maxRecDepth 100000 in
theorem commit_yes {B L p g gs bm k0 : Nat} {v f : Value} {R0 : Int} {U : Nat → Bool} {F : List Nat} {S : List (List UInt8)} {C : List Wt} (T R : Nat) (w : World) (hp : Pb w p (T : Int) R0 (.map (some bm)) g f) (hu : Us w bm k0 U) (hf : w.ownsRow L 3 1 f F.length (F.map nn)) (h : Dk B w g gs v S C) (hS : 4 ≤ S.length) (hC : C.length ≤ 900) (hF : F.length ≤ 1000) (h5 : ∀ x ∈ F, x < 512) (hk : k0 ≤ 900000) (hT : T ≤ 1000000) (hR : R ≤ 1000000) (hroot : rootB (fun i => nU F i || U i) (R : Int) = true) :
    Calls Try.prog 13 #[.pointer (some ⟨p, 0, none⟩), .int .i64 (R : Int)] w fun e w' => ∃ b2, e = .returned (.int .i64 0) ∧ Pb w' p ((T + 1 : Nat) : Int) R (.map (some b2)) g (.slice none 0 0) ∧ Us w' b2 (2 + F.length + k0) (fun i => nU F i || U i) ∧ Dk B w' g gs (.slice none 0 0) (flush (flush S C) (hdW (T + 1) R (fun i => nU F i || U i))) [] ∧ Cp B p g gs w w' := by
  obtain ⟨A, c, rfl, hRl, hFr⟩ := rl_of_own hf
  have HP := Lib.hid hp
  have HU := Lib.hid hu
  have HD := Lib.hid h
  obtain ⟨T1, hT1⟩ : ∃ T1, T + 1 = T1 := ⟨_, rfl⟩
  have WT := Lib.hid (show wrap64 ((T : Int) + 1) = (T1 : Int) by rw [← hT1]; exact wup (by omega))
  have WI := Lib.hid (show IntKind.i64.wrap ((T : Int) + 1) = (T1 : Int) by rw [IntWalk.i64_in _ (by omega)]; omega)
  rw [hT1]
  have NH := Lib.hid (fun (X : World) (hb : Below w.heap.size w X) => newHead_any (T1 : Int) (R : Int) F A c X (hRl.below hb) h5 (by omega))
  have FP := Lib.hid (fun (X : World) (hb : Below w.heap.size w X) => And.intro (show X.cell? ⟨p, 0, none⟩ = some (.int .i64 (T : Int)) from row_c (i := 0) (row_on hp hb) rfl) (show X.cell? ⟨p, 4, none⟩ = some (.slice A F.length c) from row_c (i := 4) (row_on hp hb) rfl))
  have HB := Lib.hid (And.intro hS (And.intro hC (And.intro hF hk)))
  have HRT := Lib.hid hroot
  have WR := Lib.hid (show (Lit.int .i64 (R : Int)).wf = true from WalkArith.wf_i64 (by omega))
  have c5 := row_c (i := 5) hp rfl
  have LB := Lib.hid hu.lt
  obtain ⟨N, hN⟩ : ∃ N, F.length = N := ⟨_, rfl⟩
  rw [hN] at NH FP
  have HN := Lib.hid hN
  rw [hN]
  clear hp hu hf h hS hC hF h5 hk hT hR hroot hRl hFr hN hT1
  go_enter Try.func13, Try.ntmps13
  go_wp2_with fail
  clear c5
  refine wp_operands (W := w) rfl 13 [10, 11, 12, 13, 14, 15, 16, 17, 18, 19, 20, 21, 5] (fun i u x => match i with | 0 => u = .pointer (some ⟨p, 0, none⟩) | 1 => u = .pointer (some ⟨p, 0, none⟩) | 2 => u = .pointer (some ⟨p, 0, none⟩) | 3 => u = .pointer (some ⟨p, 0, none⟩) | 4 => u = .int .i64 (T : Int) | 5 => u = .int .i64 (T1 : Int) | 6 => u = .int .i64 (R : Int) | 7 => u = .pointer (some ⟨p, 0, none⟩) | 8 => u = .pointer (some ⟨p, 0, none⟩) | 9 => u = .pointer (some ⟨p, 4, none⟩) | 10 => u = .slice A N c | 11 => ∃ bn, u = .agg #[.int .i64 (T1 : Int), .int .i64 (R : Int), .map (some bn)] ∧ w.heap.size ≤ bn ∧ Us x bn (2 + N) (nU F) | 12 => ∃ g, u = .pointer (some ⟨g, 0, none⟩) ∧ x.heap[g]? = some (.cells #[.int .i64 0, .int .i64 0, .map none] 62 (0, 0)) ∧ w.heap.size ≤ g | _ => True) (fun _ => false)
    (by decide) rfl (by kernel_rfl) (by kernel_rfl) (by decide) (by kernel_rfl) ?_ (fun _ _ _ h => by cases h) ?_ ?_
  · intro i u x x' hi hR hb'
    have hi' : i = 0 ∨ i = 1 ∨ i = 2 ∨ i = 3 ∨ i = 4 ∨ i = 5 ∨ i = 6 ∨ i = 7 ∨ i = 8 ∨ i = 9 ∨ i = 10 ∨ i = 11 ∨ i = 12 := by omega
    rcases hi' with rfl | rfl | rfl | rfl | rfl | rfl | rfl | rfl | rfl | rfl | rfl | rfl | rfl
    · exact hR
    · exact hR
    · exact hR
    · exact hR
    · exact hR
    · exact hR
    · exact hR
    · exact hR
    · exact hR
    · exact hR
    · exact hR
    · obtain ⟨bn, e, h1, h2⟩ := hR; exact ⟨bn, e, h1, h2.below hb'⟩
    · obtain ⟨g, e, hg, hn⟩ := hR; exact ⟨g, e, (hb'.block g (heap_lt hg)).trans hg, hn⟩
  · intro i av x K hi hF hb' hw hK
    have hi' : i = 0 ∨ i = 1 ∨ i = 2 ∨ i = 3 ∨ i = 4 ∨ i = 5 ∨ i = 6 ∨ i = 7 ∨ i = 8 ∨ i = 9 ∨ i = 10 ∨ i = 11 ∨ i = 12 := by omega
    rcases hi' with rfl | rfl | rfl | rfl | rfl | rfl | rfl | rfl | rfl | rfl | rfl | rfl | rfl
    · simp only [wpOp, List.getElem?_toArray, List.getElem?_cons_zero, Region.wanted, if_true]
      refine Or.inl ?_
      have e0 : av.tmps.getD 0 undef = .pointer (some ⟨p, 0, none⟩) := hF.2.2 0 (by decide)
      have e0e : av.eval (.tmp 0) = .pointer (some ⟨p, 0, none⟩) := e0
      have e0g : av.tmps[0]?.getD undef = .pointer (some ⟨p, 0, none⟩) := by have := e0; simp only [Array.getD_eq_getD_getElem?] at this; exact this
      clear hw hF
      simp only [Oper.wp, execOp]
      try simp only [e0e]
      go_simp
      exact hK _ x (by first | rfl | (simp only [Nat.add_zero]; done) | (congr 1; omega)) (Below.refl _ _) (fun h => by cases h)
    · simp only [wpOp, List.getElem?_toArray, List.getElem?_cons_succ, List.getElem?_cons_zero, Region.wanted, if_true]
      refine Or.inl ?_
      have e0 : av.tmps.getD 10 undef = .pointer (some ⟨p, 0, none⟩) := (hw 0 (by kernel_rfl))
      have e0e : av.eval (.tmp 10) = .pointer (some ⟨p, 0, none⟩) := e0
      have e0g : av.tmps[10]?.getD undef = .pointer (some ⟨p, 0, none⟩) := by have := e0; simp only [Array.getD_eq_getD_getElem?] at this; exact this
      clear hw hF
      simp only [Oper.wp, execOp]
      try simp only [e0e]
      go_simp
      exact hK _ x (by first | rfl | (simp only [Nat.add_zero]; done) | (congr 1; omega)) (Below.refl _ _) (fun h => by cases h)
    · simp only [wpOp, List.getElem?_toArray, List.getElem?_cons_succ, List.getElem?_cons_zero, Region.wanted, if_true]
      refine Or.inl ?_
      have e0 : av.tmps.getD 11 undef = .pointer (some ⟨p, 0, none⟩) := (hw 1 (by kernel_rfl))
      have e0e : av.eval (.tmp 11) = .pointer (some ⟨p, 0, none⟩) := e0
      have e0g : av.tmps[11]?.getD undef = .pointer (some ⟨p, 0, none⟩) := by have := e0; simp only [Array.getD_eq_getD_getElem?] at this; exact this
      clear hw hF
      simp only [Oper.wp, execOp]
      try simp only [e0e]
      go_simp
      exact hK _ x (by first | rfl | (simp only [Nat.add_zero]; done) | (congr 1; omega)) (Below.refl _ _) (fun h => by cases h)
    · simp only [wpOp, List.getElem?_toArray, List.getElem?_cons_succ, List.getElem?_cons_zero, Region.wanted, if_true]
      refine Or.inl ?_
      have e0 : av.tmps.getD 12 undef = .pointer (some ⟨p, 0, none⟩) := (hw 2 (by kernel_rfl))
      have e0e : av.eval (.tmp 12) = .pointer (some ⟨p, 0, none⟩) := e0
      have e0g : av.tmps[12]?.getD undef = .pointer (some ⟨p, 0, none⟩) := by have := e0; simp only [Array.getD_eq_getD_getElem?] at this; exact this
      clear hw hF
      simp only [Oper.wp, execOp]
      try simp only [e0e]
      go_simp
      exact hK _ x (by first | rfl | (simp only [Nat.add_zero]; done) | (congr 1; omega)) (Below.refl _ _) (fun h => by cases h)
    · simp only [wpOp, List.getElem?_toArray, List.getElem?_cons_succ, List.getElem?_cons_zero, Region.wanted, if_true]
      refine Or.inl ?_
      have e0 : av.tmps.getD 13 undef = .pointer (some ⟨p, 0, none⟩) := (hw 3 (by kernel_rfl))
      have e0e : av.eval (.tmp 13) = .pointer (some ⟨p, 0, none⟩) := e0
      have e0g : av.tmps[13]?.getD undef = .pointer (some ⟨p, 0, none⟩) := by have := e0; simp only [Array.getD_eq_getD_getElem?] at this; exact this
      obtain ⟨f0, f4⟩ := FP.out x hb'
      clear hw hF
      simp only [Oper.wp, execOp]
      try simp only [e0e]
      go_simp
      exact hK _ x (by first | rfl | (simp only [Nat.add_zero]; done) | (congr 1; omega)) (Below.refl _ _) (fun h => by cases h)
    · simp only [wpOp, List.getElem?_toArray, List.getElem?_cons_succ, List.getElem?_cons_zero, Region.wanted, if_true]
      refine Or.inl ?_
      have e0 : av.tmps.getD 14 undef = .int .i64 (T : Int) := (hw 4 (by kernel_rfl))
      have e0e : av.eval (.tmp 14) = .int .i64 (T : Int) := e0
      have e0g : av.tmps[14]?.getD undef = .int .i64 (T : Int) := by have := e0; simp only [Array.getD_eq_getD_getElem?] at this; exact this
      have w15 := WT.out
      have w16 := WI.out
      clear hw hF
      simp only [Oper.wp, execOp]
      try simp only [e0e]
      go_simp
      exact hK _ x (by first | rfl | (simp only [Nat.add_zero]; done) | (congr 1; omega)) (Below.refl _ _) (fun h => by cases h)
    · simp only [wpOp, List.getElem?_toArray, List.getElem?_cons_succ, List.getElem?_cons_zero, Region.wanted, if_true]
      refine Or.inl ?_
      have e0 : av.tmps.getD 1 undef = .int .i64 (R : Int) := hF.2.2 1 (by decide)
      have e0e : av.eval (.tmp 1) = .int .i64 (R : Int) := e0
      have e0g : av.tmps[1]?.getD undef = .int .i64 (R : Int) := by have := e0; simp only [Array.getD_eq_getD_getElem?] at this; exact this
      clear hw hF
      simp only [Oper.wp, execOp]
      try simp only [e0e]
      go_simp
      exact hK _ x (by first | rfl | (simp only [Nat.add_zero]; done) | (congr 1; omega)) (Below.refl _ _) (fun h => by cases h)
    · simp only [wpOp, List.getElem?_toArray, List.getElem?_cons_succ, List.getElem?_cons_zero, Region.wanted, if_true]
      refine Or.inl ?_
      have e0 : av.tmps.getD 0 undef = .pointer (some ⟨p, 0, none⟩) := hF.2.2 0 (by decide)
      have e0e : av.eval (.tmp 0) = .pointer (some ⟨p, 0, none⟩) := e0
      have e0g : av.tmps[0]?.getD undef = .pointer (some ⟨p, 0, none⟩) := by have := e0; simp only [Array.getD_eq_getD_getElem?] at this; exact this
      clear hw hF
      simp only [Oper.wp, execOp]
      try simp only [e0e]
      go_simp
      exact hK _ x (by first | rfl | (simp only [Nat.add_zero]; done) | (congr 1; omega)) (Below.refl _ _) (fun h => by cases h)
    · simp only [wpOp, List.getElem?_toArray, List.getElem?_cons_succ, List.getElem?_cons_zero, Region.wanted, if_true]
      refine Or.inl ?_
      have e0 : av.tmps.getD 17 undef = .pointer (some ⟨p, 0, none⟩) := (hw 7 (by kernel_rfl))
      have e0e : av.eval (.tmp 17) = .pointer (some ⟨p, 0, none⟩) := e0
      have e0g : av.tmps[17]?.getD undef = .pointer (some ⟨p, 0, none⟩) := by have := e0; simp only [Array.getD_eq_getD_getElem?] at this; exact this
      clear hw hF
      simp only [Oper.wp, execOp]
      try simp only [e0e]
      go_simp
      exact hK _ x (by first | rfl | (simp only [Nat.add_zero]; done) | (congr 1; omega)) (Below.refl _ _) (fun h => by cases h)
    · simp only [wpOp, List.getElem?_toArray, List.getElem?_cons_succ, List.getElem?_cons_zero, Region.wanted, if_true]
      refine Or.inl ?_
      have e0 : av.tmps.getD 18 undef = .pointer (some ⟨p, 0, none⟩) := (hw 8 (by kernel_rfl))
      have e0e : av.eval (.tmp 18) = .pointer (some ⟨p, 0, none⟩) := e0
      have e0g : av.tmps[18]?.getD undef = .pointer (some ⟨p, 0, none⟩) := by have := e0; simp only [Array.getD_eq_getD_getElem?] at this; exact this
      clear hw hF
      simp only [Oper.wp, execOp]
      try simp only [e0e]
      go_simp
      exact hK _ x (by first | rfl | (simp only [Nat.add_zero]; done) | (congr 1; omega)) (Below.refl _ _) (fun h => by cases h)
    · simp only [wpOp, List.getElem?_toArray, List.getElem?_cons_succ, List.getElem?_cons_zero, Region.wanted, if_true]
      refine Or.inl ?_
      have e0 : av.tmps.getD 19 undef = .pointer (some ⟨p, 4, none⟩) := (hw 9 (by kernel_rfl))
      have e0e : av.eval (.tmp 19) = .pointer (some ⟨p, 4, none⟩) := e0
      have e0g : av.tmps[19]?.getD undef = .pointer (some ⟨p, 4, none⟩) := by have := e0; simp only [Array.getD_eq_getD_getElem?] at this; exact this
      obtain ⟨f0, f4⟩ := FP.out x hb'
      clear hw hF
      simp only [Oper.wp, execOp]
      try simp only [e0e]
      go_simp
      exact hK _ x (by first | rfl | (simp only [Nat.add_zero]; done) | (congr 1; omega)) (Below.refl _ _) (fun h => by cases h)
    · simp only [wpOp, List.getElem?_toArray, List.getElem?_cons_succ, List.getElem?_cons_zero, Region.wanted, if_true]
      refine Or.inl ?_
      have e0 : av.tmps.getD 15 undef = .int .i64 (T1 : Int) := (hw 5 (by kernel_rfl))
      have e0e : av.eval (.tmp 15) = .int .i64 (T1 : Int) := e0
      have e0g : av.tmps[15]?.getD undef = .int .i64 (T1 : Int) := by have := e0; simp only [Array.getD_eq_getD_getElem?] at this; exact this
      have e1 : av.tmps.getD 16 undef = .int .i64 (R : Int) := (hw 6 (by kernel_rfl))
      have e1e : av.eval (.tmp 16) = .int .i64 (R : Int) := e1
      have e1g : av.tmps[16]?.getD undef = .int .i64 (R : Int) := by have := e1; simp only [Array.getD_eq_getD_getElem?] at this; exact this
      have e2 : av.tmps.getD 20 undef = .slice A N c := (hw 10 (by kernel_rfl))
      have e2e : av.eval (.tmp 20) = .slice A N c := e2
      have e2g : av.tmps[20]?.getD undef = .slice A N c := by have := e2; simp only [Array.getD_eq_getD_getElem?] at this; exact this
      clear hw hF
      simp only [Oper.wp, execOp]
      try simp only [e0e, e1e, e2e]
      go_simp
      refine (NH.out x hb').mono ?_
      rintro e x' ⟨bn, rfl, h1, h2, hx⟩
      exact hK _ x' ⟨bn, rfl, Nat.le_trans hb'.size h1, h2⟩ hx (fun h => by cases h)
    · simp only [wpOp, List.getElem?_toArray, List.getElem?_cons_succ, List.getElem?_cons_zero, Region.wanted, if_true]
      refine Or.inl ?_
      clear hw hF
      simp only [Oper.wp, execOp]
      go_simp
      exact hK _ _ ⟨_, rfl, heap_alloc_new _ _, hb'.size⟩ ((Below.refl _ _).alloc (Nat.le_refl _) _) (fun h => by cases h)
  · intro av x hF hb' hR _
    have e0 : av.tmps.getD 10 undef = .pointer (some ⟨p, 0, none⟩) := hR 0 (by decide)
    have e1 : av.tmps.getD 11 undef = .pointer (some ⟨p, 0, none⟩) := hR 1 (by decide)
    have e2 : av.tmps.getD 12 undef = .pointer (some ⟨p, 0, none⟩) := hR 2 (by decide)
    have e3 : av.tmps.getD 13 undef = .pointer (some ⟨p, 0, none⟩) := hR 3 (by decide)
    have e4 : av.tmps.getD 14 undef = .int .i64 (T : Int) := hR 4 (by decide)
    have e5 : av.tmps.getD 15 undef = .int .i64 (T1 : Int) := hR 5 (by decide)
    have e6 : av.tmps.getD 16 undef = .int .i64 (R : Int) := hR 6 (by decide)
    have e7 : av.tmps.getD 17 undef = .pointer (some ⟨p, 0, none⟩) := hR 7 (by decide)
    have e8 : av.tmps.getD 18 undef = .pointer (some ⟨p, 0, none⟩) := hR 8 (by decide)
    have e9 : av.tmps.getD 19 undef = .pointer (some ⟨p, 4, none⟩) := hR 9 (by decide)
    have e10 : av.tmps.getD 20 undef = .slice A N c := hR 10 (by decide)
    obtain ⟨bn11, e11, h1x11, h2x11⟩ := hR 11 (by decide)
    replace e11 : av.tmps.getD 21 undef = .agg #[.int .i64 (T1 : Int), .int .i64 (R : Int), .map (some bn11)] := e11
    obtain ⟨gg12, e12, hg12, hn12⟩ := hR 12 (by decide)
    replace e12 : av.tmps.getD 5 undef = .pointer (some ⟨gg12, 0, none⟩) := e12
    rw [hF.fold (by kernel_rfl)]
    simp only [List.foldl_cons, List.foldl_nil, e0, e1, e2, e3, e4, e5, e6, e7, e8, e9, e10, e11, e12]
    simp only [Act.put, List.setIfInBounds_toArray, List.set_cons_zero, List.set_cons_succ]
    change wpOps _ _ _ [13] _ _
    simp only [wpOps_cons]
    clear e0 e1 e2 e3 e4 e5 e6 e7 e8 e9 e10 e11 e12 hR hF
    have HG := Lib.hid hg12
    have HBN := Lib.hid (And.intro h1x11 h2x11)
    have KB := Lib.hid hb'
    have HNN := Lib.hid hn12
    clear hb' h1x11 h2x11 hg12 hn12
    have p0 := row_c HG.out (i := 0) rfl
    have p1 := row_c HG.out (i := 1) rfl
    have p2 := row_c HG.out (i := 2) rfl
    have y0 := frozen_of_row _ _ 0 _ _ HG.out
    have y1 := frozen_of_row _ _ 1 _ _ HG.out
    have y2 := frozen_of_row _ _ 2 _ _ HG.out
    try rw [wpOps_cons]
    simp only [wpOp, List.getElem?_toArray, List.getElem?_cons_succ, List.getElem?_cons_zero, Region.wanted, if_true]
    refine Or.inl ?_
    simp only [Oper.wp, execOp]
    go_simp
    try simp only [wpOps]
    obtain ⟨b5, hb5⟩ : ∃ z, z = gg12 := ⟨_, rfl⟩
    obtain ⟨b2, hb2⟩ : ∃ z, z = bn11 := ⟨_, rfl⟩
    rw [← hb5] at HG HNN p0 p1 p2 y0 y1 y2 ⊢
    rw [← hb2] at HBN ⊢
    clear hb5 hb2
    obtain ⟨V, hV⟩ : ∃ V : World, V = ((x.setCell ⟨b5, 0, none⟩ (.int .i64 (T1 : Int))).setCell ⟨b5, 1, none⟩ (.int .i64 (R : Int))).setCell ⟨b5, 2, none⟩ (.map (some b2)) := ⟨_, rfl⟩
    have RG := Lib.hid (show V.heap[b5]? = some (.cells #[.int .i64 (T1 : Int), .int .i64 (R : Int), .map (some b2)] 62 (0, 0)) by rw [hV]; have := row_setG (i := 2) (row_setG (i := 1) (row_setG (i := 0) HG.out (.int .i64 (T1 : Int))) (.int .i64 (R : Int))) (.map (some b2)); simpa using this)
    have UV := Lib.hid (show Us V b2 (2 + N) (nU F) by rw [hV]; exact ((HBN.out.2.set HG.out _).set (row_setG HG.out _) _).set (row_setG (row_setG HG.out _) _) _)
    have NB5 := Lib.hid (show w.heap.size ≤ b5 from HNN.out)
    have BV := Lib.hid (show Below w.heap.size w V by rw [hV]; have h1 := NB5.out; exact ((KB.out.setCell (by simpa using h1) _).setCell (by simpa using h1) _).setCell (by simpa using h1) _)
    rw [← hV]
    clear hV p0 p1 p2 y0 y1 y2 HG KB
    have PV := Lib.hid (row_on HP.out BV.out)
    have U0 := Lib.hid (HU.out.below BV.out)
    have q2 := row_c (i := 2) RG.out rfl
    have m2 := row_c (i := 2) PV.out rfl
    have CO := Lib.hid (fun X (hX : Below V.heap.size V X) => copy_any (bd := b2) (bs := bm) X (UV.out.below hX) (U0.out.below hX) (by have := HBN.out.1; have := LB.out; omega) (by have := HB.out; have := HN.out; omega))
    go_wp2_with fail
    refine wp_region_still_tail 7 (by kernel_rfl) (by kernel_rfl) ?_
    simp only [List.take_succ_cons, List.take_zero, List.drop_succ_cons, List.drop_zero]
    repeat still_step
    refine wpStill_nil ?_
    change wpList _ _ _ _ _ V.drew
    go_wp2_with fail
    refine (CO.out _ (bd0 V)).mono ?_
    rintro e w3 ⟨rfl, hu3, hg3⟩
    have gd : V.grownBy w3 (some b2) := ⟨hg3.os, hg3.tape, hg3.output, hg3.size, hg3.block⟩
    have B3 := Lib.hid (show Below w.heap.size w w3 from BV.out.trans (below_of_grown gd HBN.out.1 BV.out.size))
    have P3 := Lib.hid (row_on HP.out B3.out)
    have R3 := Lib.hid (grown_row gd RG.out (by obtain ⟨es, cl, hb⟩ := UV.out.isMap; exact fun e => ne_map hb RG.out e.symm))
    have U3 := Lib.hid hu3
    have D3 := Lib.hid (HD.out.below B3.out)
    have RT := Lib.hid (rooted_any (b := b5) (R : Int) true w3 hu3 (row_c (i := 1) R3.out rfl) (row_c (i := 2) R3.out rfl) WR.out HRT.out)
    clear gd hg3 hu3 q2 m2 CO UV RG PV U0 BV
    go_wp2_with fail
    refine RT.out.mono ?_
    rintro e w4 ⟨rfl, hb4⟩
    have B4 := Lib.hid (bon B3.out hb4)
    have R4 := Lib.hid (row_on R3.out hb4)
    have U4 := Lib.hid (U3.out.below hb4)
    have ST := Lib.hid (settle_any T1 R w4 (row_on HP.out B4.out) U4.out (HD.out.below B4.out) HB.out.1 HB.out.2.1)
    have q0 := row_c (i := 0) R4.out rfl
    have q1 := row_c (i := 1) R4.out rfl
    have q2 := row_c (i := 2) R4.out rfl
    clear hb4 RT
    go_wp2_with fail
    refine ST.out.mono ?_
    rintro e w5 ⟨rfl, hp5, hu5, hd5, hc5⟩
    have H5 := Lib.hid (And.intro hp5 (And.intro hu5 (And.intro hd5 hc5)))
    clear hp5 hu5 hd5 hc5 q0 q1 q2
    go_wp2
    go_ret
    exact ⟨b2, rfl, H5.out.1, H5.out.2.1, H5.out.2.2.1, (Cp.of_below B4.out HD.out.hB).trans H5.out.2.2.2⟩
end Go.Proofs.Ytmgdpchjimlmeaa
