/-
  The law's own 'few' and 'examples'.
-/
import Derived.Test.YtlfjopjfolbmiaaCh
namespace Go.Proofs.Ytlfjopjfolbmiaa
open Go.RowKit
theorem Vs.take {w : World} {A : Option Addr} {c : Nat} {vs : List (Int × Int)} (h : Vs w A c vs) (k : Nat) : Vs w A c (vs.take k) := by
  refine ⟨Nat.le_trans (List.length_take_le' _ _) h.1, fun h0 => ?_⟩
  have hl : (vs.take k).length ≤ vs.length := List.length_take_le' _ _
  obtain ⟨b, off, e, hb, hc⟩ := h.2 (by omega)
  refine ⟨b, off, e, hb, fun j hj => ?_⟩
  have hj2 : j < k := by simp at hj; omega
  have e2 : at2 (vs.take k) j = at2 vs j := by unfold at2; rw [List.getElem?_take, if_pos hj2]
  rw [e2]
  exact hc j (by omega)
set_option maxHeartbeats 2000000 in
set_option maxRecDepth 100000 in
theorem few_any (next : Int) (A : Option Addr) (c : Nat) (vs : List (Int × Int)) (w : World) (h : Vs w A c vs) :
    Calls Try.prog 8 #[.agg #[.int .i64 next, .slice A vs.length c]] w fun e w' => ∃ A' c', e = .returned (.agg #[.int .i64 next, .slice A' (vs.take 15).length c']) ∧ Vs w' A' c' (vs.take 15) ∧ Below w.heap.size w w' ∧ Fr w.heap.size A' := by
  have hc := h.1
  have HN := Lib.hid (show (if (15 : Int) < (vs.length : Int) then (15 : Int) else (vs.length : Int)).toNat = (vs.take 15).length by rw [List.length_take]; split <;> omega)
  have lx : (vs.take 15).length ≤ 15 := by rw [List.length_take]; omega
  have H := Lib.hid (h.take 15)
  have HX := Lib.hid h
  clear h
  go_enter Try.func8, Try.ntmps8
  have r1 := row_on (heap_alloc_new w (.cells #[.int .i64 next, .slice A vs.length c] 24)) (bda _ (.cells #[.int .i64 0, .slice none 0 0] 24))
  have r2 := heap_alloc_new (w.alloc (.cells #[.int .i64 next, .slice A vs.length c] 24)) (.cells #[.int .i64 0, .slice none 0 0] 24)
  simp only [World.size_alloc] at r2
  have B1 := Lib.hid (show Below w.heap.size w ((w.alloc (.cells #[.int .i64 next, .slice A vs.length c] 24)).alloc (.cells #[.int .i64 0, .slice none 0 0] 24)) from bon (bda _ _) (bda _ _))
  have R1 := Lib.hid r1
  have R2 := Lib.hid r2
  have HV := Lib.hid (H.out.below B1.out)
  have OW := Lib.hid (World.ownsRow_nil ((w.alloc (.cells #[.int .i64 next, .slice A vs.length c] 24)).alloc (.cells #[.int .i64 0, .slice none 0 0] 24)) (w.heap.size + 2) 53 2)
  have SZ := Lib.hid (show w.heap.size + 2 ≤ ((w.alloc (.cells #[.int .i64 next, .slice A vs.length c] 24)).alloc (.cells #[.int .i64 0, .slice none 0 0] 24)).heap.size by simp)
  have LX := Lib.hid (show 0 + (vs.take 15).length ≤ 1000000 by omega)
  clear r1 r2
  go_wp2_with (at_builtin; refine wpList_append_vs vt1 rfl _ _ rfl (w.heap.size + 2) _ 0 [] (vs.take 15) A c _ rfl OW.out HV.out HN.out rfl (by have := HN.out; omega) SZ.out ?_)
  all_goals
    intro v' w3 hown hgrow
    obtain ⟨A3, c3, hv, hV, hF⟩ := vs_of_own hown
    have V3 := Lib.hid hV
    have F3 := Lib.hid hF
    subst hv
    have K3 := Lib.hid (show Below (w.heap.size + 2) ((w.alloc (.cells #[.int .i64 next, .slice A vs.length c] 24)).alloc (.cells #[.int .i64 0, .slice none 0 0] 24)) w3 from (Below.refl _ _).grown hgrow (by simp) (fun k hk => by cases hk))
    have s1 : w.heap.size < w.heap.size + 2 := by omega
    have s2 : w.heap.size + 1 < w.heap.size + 2 := by omega
    have q1 := Lib.hid ((K3.out.block _ s1).trans R1.out)
    have q2 := Lib.hid ((K3.out.block _ s2).trans R2.out)
    have f0 : w3.cell? ⟨w.heap.size, 0, none⟩ = some (.int .i64 next) := row_c q1.out (i := 0) rfl
    have f1 : w3.cell? ⟨w.heap.size, 1, none⟩ = some (.slice A vs.length c) := row_c q1.out (i := 1) rfl
    have g0 : w3.cell? ⟨w.heap.size + 1, 0, none⟩ = some (.int .i64 0) := row_c q2.out (i := 0) rfl
    have g1 : w3.cell? ⟨w.heap.size + 1, 1, none⟩ = some (.slice none 0 0) := row_c q2.out (i := 1) rfl
    have z0 := frozen_of_row _ _ 0 _ _ q1.out
    have z1 := frozen_of_row _ _ 1 _ _ q1.out
    have y0 := frozen_of_row _ _ 0 _ _ q2.out
    have y1 := frozen_of_row _ _ 1 _ _ q2.out
    clear hown hgrow hV hF
    go_wp2
    refine bodyPost_ret (v := .agg #[.int .i64 next, .slice A3 (vs.take 15).length c3]) (by simp [results, Try.results8, go_sem, g0, g1]) rfl ⟨A3, c3, rfl, ?_, ?_, fun b o e => by have := F3.out b o e; omega⟩
    · exact ((V3.out.set F3.out s1 _ _).set F3.out s2 _ _).set F3.out s2 _ _
    · exact ((((B1.out.trans (K3.out.mono (by omega))).setCell (Nat.le_refl _) _).setCell (by simp) _).setCell (by simp) _)
end Go.Proofs.Ytlfjopjfolbmiaa
