/-
  The document's With, granted.
-/
import Derived.Test.YtlfjopjfolbmiaaCs
import Derived.StillTailTactics
namespace Go.Proofs.Ytlfjopjfolbmiaa
open Go.RowKit
theorem own_set {w : World} {base size n : Nat} {e : TypeId} {v : Value} {xs : List Value} (h : w.ownsRow base e size v n xs) {k : Nat} (hk : k < base) (o : Nat) (x : Value) : (w.setCell ⟨k, o, none⟩ x).ownsRow base e size v n xs := by
  refine ⟨h.1, ?_⟩
  rcases h.2 with h0 | ⟨g, cap, cur, h1, h2, h3, h4⟩
  · exact .inl h0
  · exact .inr ⟨g, cap, cur, h1, h2, (Below.heap_setCell w _ x g (by simp; omega)).trans h3, h4⟩
theorem vs_new (W : World) (a b : Int) (T : TypeId) : Vs (W.alloc (.cells #[.int .i64 a, .int .i64 b] T)) (some ⟨W.heap.size, 0, none⟩) 1 [(a, b)] := by
  refine ⟨by simp, fun _ => ⟨W.heap.size, 0, rfl, by simp, fun j hj => ?_⟩⟩
  obtain rfl : j = 0 := by simpa using hj
  have q := heap_alloc_new W (.cells #[.int .i64 a, .int .i64 b] T)
  exact ⟨row_c q (i := 0) rfl, row_c q (i := 1) rfl⟩
set_option maxHeartbeats 4000000 in
set_option maxRecDepth 100000 in
theorem rwith_yes (next : Int) (A : Option Addr) (c : Nat) (vs : List (Int × Int)) (r : Int) (w : World) (h : Vs w A c vs) (hb : withB next vs r = true) :
    Calls Try.prog 20 #[.agg #[.int .i64 next, .slice A vs.length c], .int .i64 r] w fun e w' => ∃ A' c', e = .returned (.tuple #[.agg #[.int .i64 (next + 1), .slice A' (vs ++ [(next, r)]).length c'], .bool true]) ∧ Vs w' A' c' (vs ++ [(next, r)]) ∧ Below w.heap.size w w' ∧ Fr w.heap.size A' := by
  obtain ⟨zs, hzs⟩ : ∃ zs, vs ++ [(next, r)] = zs := ⟨_, rfl⟩
  rw [hzs]
  have HZ := Lib.hid hzs
  clear hzs
  unfold withB at hb
  simp only [Bool.and_eq_true, Bool.not_eq_true', decide_eq_false_iff_not] at hb
  obtain ⟨⟨⟨b1, b2⟩, b3⟩, b4⟩ := hb
  obtain ⟨a1, a2, a3, a4⟩ := right_all b1
  have RG := Lib.hid (fun V (hV : Vs V A c vs) => rright_any next A c vs V hV (by omega))
  rw [b1] at RG
  have RB := Lib.hid (fun V => rroot_any r V)
  rw [b4] at RB
  have e1 : ((vs.length : Int) == 12) = false := by simp; omega
  have e2 : (next == 16777216) = false := by simpa using b3
  have hw : IntKind.i64.wrap (next + 1) = next + 1 := IntWalk.i64_in _ (by omega)
  have ll : vs.length ≤ 12 := a3
  have lo : 1 ≤ next := a1
  have hi : next ≤ 16777216 := a2
  clear a1 a2 a3 a4 b1 b2 b3 b4
  have H := Lib.hid h
  clear h
  go_enter Try.func20, Try.ntmps20
  go_wp2_with fail
  refine (RG.out _ (H.out.below (bon (bda _ _) (bda _ _)))).mono ?_
  rintro e w2 ⟨rfl, hb⟩
  have R1 := Lib.hid (row_on (row_on (heap_alloc_new w (.cells #[.int .i64 next, .slice A vs.length c] 34)) (bda _ (.cells #[.int .i64 0, .slice none 0 0] 34))) hb)
  have r2 := row_on (heap_alloc_new (w.alloc (.cells #[.int .i64 next, .slice A vs.length c] 34)) (.cells #[.int .i64 0, .slice none 0 0] 34)) hb
  have K2 := Lib.hid (bon (bon (bda w (.cells #[.int .i64 next, .slice A vs.length c] 34)) (bda _ (.cells #[.int .i64 0, .slice none 0 0] 34))) hb)
  have V2 := Lib.hid (H.out.below K2.out)
  clear hb
  simp only [World.size_alloc] at r2
  have R2 := Lib.hid r2
  clear r2
  have f0 : w2.cell? ⟨w.heap.size, 0, none⟩ = some (.int .i64 next) := row_c R1.out (i := 0) rfl
  have f1 : w2.cell? ⟨w.heap.size, 1, none⟩ = some (.slice A vs.length c) := row_c R1.out (i := 1) rfl
  go_wp2_with fail
  refine (RB.out _).mono ?_
  rintro e w3 ⟨rfl, rfl⟩
  go_upto_region 5 with (fail)
  have S2 := Lib.hid (show w.heap.size + 1 < w2.heap.size from heap_lt R2.out)
  obtain ⟨W, hW⟩ : ∃ W : World, W = w2.alloc (.cells #[.int .i64 (next + 1), .slice none 0 0] 34) := ⟨_, rfl⟩
  have r7 : W.heap[w2.heap.size]? = some (.cells #[.int .i64 (next + 1), .slice none 0 0] 34) := by rw [hW]; exact heap_alloc_new _ _
  have BW := Lib.hid (show Below w2.heap.size w2 W by rw [hW]; exact bda _ _)
  have SW := Lib.hid (show W.heap.size = w2.heap.size + 1 by rw [hW]; simp)
  rw [← hW]
  clear hW
  have R7 := Lib.hid r7
  clear r7 f0 f1
  have R1 := Lib.hid (row_on R1.out BW.out)
  have R2 := Lib.hid (row_on R2.out BW.out)
  have f0 : W.cell? ⟨w.heap.size, 0, none⟩ = some (.int .i64 next) := row_c R1.out (i := 0) rfl
  have f1 : W.cell? ⟨w.heap.size, 1, none⟩ = some (.slice A vs.length c) := row_c R1.out (i := 1) rfl
  have g0 : W.cell? ⟨w2.heap.size, 0, none⟩ = some (.int .i64 (next + 1)) := row_c R7.out (i := 0) rfl
  have g1 : W.cell? ⟨w2.heap.size, 1, none⟩ = some (.slice none 0 0) := row_c R7.out (i := 1) rfl
  have OW := Lib.hid (World.ownsRow_nil W (w2.heap.size + 1) 59 2)
  have VW := Lib.hid (V2.out.below BW.out)
  go_wp2_with (at_builtin; refine wpList_append_vs vt2 rfl _ _ rfl (w2.heap.size + 1) _ 0 [] vs A c _ rfl OW.out VW.out rfl rfl (by omega) (Nat.le_of_eq SW.out.symm) ?_)
  intro v' w3 hown hgrow
  obtain ⟨A3, c3, hv, hV, hF⟩ := vs_of_own hown
  subst hv
  have O3 := Lib.hid hown
  have k3 : Below (w2.heap.size + 1) W w3 := (Below.refl _ _).grown hgrow (Nat.le_of_eq SW.out.symm) (fun k hk => by cases hk)
  have K3 := Lib.hid k3
  clear hown hgrow hV hF f0 f1 g0 g1 k3
  have s0 : w.heap.size < w2.heap.size + 1 := by have := S2.out; omega
  have s1 : w.heap.size + 1 < w2.heap.size + 1 := by have := S2.out; omega
  have s2 : w2.heap.size < w2.heap.size + 1 := by omega
  have q1 := Lib.hid ((K3.out.block _ s0).trans R1.out)
  have q2 := Lib.hid ((K3.out.block _ s1).trans R2.out)
  have q7 := Lib.hid ((K3.out.block _ s2).trans R7.out)
  have g0 : w3.cell? ⟨w2.heap.size, 0, none⟩ = some (.int .i64 (next + 1)) := row_c q7.out (i := 0) rfl
  have g1 : w3.cell? ⟨w2.heap.size, 1, none⟩ = some (.slice none 0 0) := row_c q7.out (i := 1) rfl
  have z0 := frozen_of_row _ _ 0 _ _ q7.out
  have z1 := frozen_of_row _ _ 1 _ _ q7.out
  go_upto_region 6 with (fail)
  obtain ⟨U, hU⟩ : ∃ U : World, U = w3.setCell ⟨w2.heap.size, 1, none⟩ (.slice A3 vs.length c3) := ⟨_, rfl⟩
  have OU := Lib.hid (show U.ownsRow (w2.heap.size + 1) 59 2 (.slice A3 vs.length c3) vs.length (vcells vs) by rw [hU]; have := own_set O3.out (Nat.lt_succ_self w2.heap.size) 1 (.slice A3 vs.length c3); simpa using this)
  have u1 : U.heap[w.heap.size]? = some (.cells #[.int .i64 next, .slice A vs.length c] 34) := by rw [hU]; exact (Below.heap_setCell _ _ _ _ (by have := S2.out; simp; omega)).trans q1.out
  have u2 : U.heap[w.heap.size + 1]? = some (.cells #[.int .i64 0, .slice none 0 0] 34) := by rw [hU]; exact (Below.heap_setCell _ _ _ _ (by have := S2.out; simp; omega)).trans q2.out
  have u7 : U.heap[w2.heap.size]? = some (.cells #[.int .i64 (next + 1), .slice A3 vs.length c3] 34) := by rw [hU]; unfold World.setCell; simp [Array.getElem?_modify, q7.out]
  have KU := Lib.hid (show Below w2.heap.size w2 U by rw [hU]; exact (BW.out.trans (K3.out.mono (by omega))).setCell (by simp) _)
  have ZU := Lib.hid (show w2.heap.size + 1 ≤ U.heap.size by have := K3.out.size; have := SW.out; rw [hU]; simp; omega)
  rw [← hU]
  clear hU q1 q2 q7 O3
  have U1 := Lib.hid u1
  have U2 := Lib.hid u2
  have U7 := Lib.hid u7
  clear u1 u2 u7
  have f0 : U.cell? ⟨w.heap.size, 0, none⟩ = some (.int .i64 next) := row_c U1.out (i := 0) rfl
  have g1 : U.cell? ⟨w2.heap.size, 1, none⟩ = some (.slice A3 vs.length c3) := row_c U7.out (i := 1) rfl
  go_wp2_with (at_builtin; (refine wpList_append_vs vt2 rfl _ _ rfl (w2.heap.size + 1) _ vs.length vs [(next, r)] (some ⟨U.heap.size, 0, none⟩) 1 1 rfl (OU.out.alloc _) (vs_new U next r _) rfl rfl (by omega) (by have := ZU.out; simp; omega) ?_))
  intro v' w4 hown hgrow
  rw [HZ.out] at hown
  obtain ⟨A4, c4, hv, hV, hF⟩ := vs_of_own hown
  subst hv
  have V4 := Lib.hid hV
  have F4 := Lib.hid hF
  have k4 : Below (w2.heap.size + 1) (U.alloc (.cells #[.int .i64 next, .int .i64 r] 59)) w4 := (Below.refl _ _).grown hgrow (by have := ZU.out; simp; omega) (fun k hk => ((OU.out.alloc (.cells #[.int .i64 next, .int .i64 r] 59)).lt k hk).1)
  have K4 := Lib.hid (show Below (w2.heap.size + 1) U w4 from (show Below (w2.heap.size + 1) U (U.alloc (.cells #[.int .i64 next, .int .i64 r] 59)) from (Below.refl _ _).alloc ZU.out _).trans k4)
  clear hown hgrow hV hF f0 g1 k4
  have q2 := Lib.hid ((K4.out.block _ s1).trans U2.out)
  have q7 := Lib.hid ((K4.out.block _ s2).trans U7.out)
  have g0 : w4.cell? ⟨w2.heap.size, 0, none⟩ = some (.int .i64 (next + 1)) := row_c q7.out (i := 0) rfl
  have g1 : w4.cell? ⟨w2.heap.size, 1, none⟩ = some (.slice A3 vs.length c3) := row_c q7.out (i := 1) rfl
  have z0 := frozen_of_row _ _ 0 _ _ q7.out
  have z1 := frozen_of_row _ _ 1 _ _ q7.out
  have p0 : w4.cell? ⟨w.heap.size + 1, 0, none⟩ = some (.int .i64 0) := row_c q2.out (i := 0) rfl
  have p1 : w4.cell? ⟨w.heap.size + 1, 1, none⟩ = some (.slice none 0 0) := row_c q2.out (i := 1) rfl
  have y0 := frozen_of_row _ _ 0 _ _ q2.out
  have y1 := frozen_of_row _ _ 1 _ _ q2.out
  have ne1 : w.heap.size + 1 ≠ w2.heap.size := by have := S2.out; omega
  have ne2 : w2.heap.size ≠ w.heap.size + 1 := by have := S2.out; omega
  go_wp2
  refine bodyPost_ret (v := .tuple #[.agg #[.int .i64 (next + 1), .slice A4 zs.length c4], .bool true]) (by simp [results, Try.results20, go_sem, p0, p1]) rfl ⟨A4, c4, rfl, ?_, ?_, fun b o e => by have := F4.out b o e; have := S2.out; omega⟩
  · exact ((V4.out.set F4.out s2 _ _).set F4.out s1 _ _).set F4.out s1 _ _
  · exact (((((K2.out.trans (KU.out.mono (by have := S2.out; omega))).trans (K4.out.mono (by have := S2.out; omega))).setCell (by have := S2.out; simp; omega) _).setCell (by simp) _).setCell (by simp) _)
end Go.Proofs.Ytlfjopjfolbmiaa
