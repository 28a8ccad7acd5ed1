/-
  The law's own lists, of two equal ones.
-/
import Derived.Test.YtlfjopjfolbmiaaCw
namespace Go.Proofs.Ytlfjopjfolbmiaa
open Go.RowKit
set_option maxHeartbeats 4000000 in
set_option maxRecDepth 100000 in
theorem lists_any (next : Int) (A B : Option Addr) (c d : Nat) (vs : List (Int × Int)) (w : World) (h : Vs w A c vs) (h2 : Vs w B d vs) (hl : vs.length ≤ 100000) :
    Calls Try.prog 14 #[.agg #[.int .i64 next, .slice A vs.length c], .agg #[.int .i64 next, .slice B vs.length d]] w fun e w' => e = .returned (.bool true) ∧ Below w.heap.size w w' := by
  have RF := Lib.hid (fun V (hV : Vs V A c vs) => ref_any next A c vs V hV hl)
  have SM := Lib.hid (fun A4 c4 V (h1 : Vs V A4 c4 vs) (h2 : Vs V B d vs) => same_any next A4 B c4 d vs V h1 h2 hl)
  have H := Lib.hid h
  have H2 := Lib.hid h2
  clear h h2
  go_enter Try.func14, Try.ntmps14
  go_upto_region 1 with (fail)
  obtain ⟨W, hW⟩ : ∃ W : World, W = (w.alloc (.cells #[.int .i64 next, .slice A vs.length c] 24)).alloc (.cells #[.int .i64 next, .slice B vs.length d] 34) := ⟨_, rfl⟩
  have r2 := heap_alloc_new (w.alloc (.cells #[.int .i64 next, .slice A vs.length c] 24)) (.cells #[.int .i64 next, .slice B vs.length d] 34)
  have r1 := row_on (heap_alloc_new w (.cells #[.int .i64 next, .slice A vs.length c] 24)) (bda _ (.cells #[.int .i64 next, .slice B vs.length d] 34))
  simp only [World.size_alloc] at r2
  rw [← hW] at r1 r2 ⊢
  have B1 := Lib.hid (show Below w.heap.size w W by rw [hW]; exact bon (bda _ _) (bda _ _))
  have s1 := heap_lt r1
  have s2 := heap_lt r2
  clear hW
  have f0 : W.cell? ⟨w.heap.size, 0, none⟩ = some (.int .i64 next) := row_c r1 (i := 0) rfl
  have f1 : W.cell? ⟨w.heap.size, 1, none⟩ = some (.slice A vs.length c) := row_c r1 (i := 1) rfl
  have g0 : W.cell? ⟨w.heap.size + 1, 0, none⟩ = some (.int .i64 next) := row_c r2 (i := 0) rfl
  have g1 : W.cell? ⟨w.heap.size + 1, 1, none⟩ = some (.slice B vs.length d) := row_c r2 (i := 1) rfl
  have F0 := Lib.hid (And.intro f0 (And.intro f1 (And.intro g0 g1)))
  have VA := Lib.hid (show Vs W.drew A c vs from H.out.below (below_drew B1.out))
  have SF := Lib.hid (fun (x : World) (K : Below W.heap.size W x) => show x.cell? ⟨w.heap.size, 0, none⟩ = some (.int .i64 next) ∧ x.cell? ⟨w.heap.size, 1, none⟩ = some (.slice A vs.length c) ∧ x.cell? ⟨w.heap.size + 1, 0, none⟩ = some (.int .i64 next) ∧ x.cell? ⟨w.heap.size + 1, 1, none⟩ = some (.slice B vs.length d) from And.intro ((K.cell (p := ⟨w.heap.size, 0, none⟩) s1).trans F0.out.1) (And.intro ((K.cell (p := ⟨w.heap.size, 1, none⟩) s1).trans F0.out.2.1) (And.intro ((K.cell (p := ⟨w.heap.size + 1, 0, none⟩) s2).trans F0.out.2.2.1) ((K.cell (p := ⟨w.heap.size + 1, 1, none⟩) s2).trans F0.out.2.2.2))))
  have KF := Lib.hid (fun (x : World) (K : Below W.drew.heap.size W.drew x) => show Below W.heap.size W x from (show Below W.heap.size W W.drew from (Below.refl _ _).drew).trans K)
  have VF := Lib.hid (fun (x : World) (K : Below W.heap.size W x) => show Vs x B d vs from (H2.out.below B1.out).below K)
  clear r1 r2
  go_region_held3 (fun w' => w'.cell? ⟨w.heap.size, 0, none⟩ = some (.int .i64 next) ∧ w'.cell? ⟨w.heap.size, 1, none⟩ = some (.slice A vs.length c) ∧ w'.cell? ⟨w.heap.size + 1, 0, none⟩ = some (.int .i64 next) ∧ w'.cell? ⟨w.heap.size + 1, 1, none⟩ = some (.slice B vs.length d))
    (first | with_reducible exact S5.out | with_reducible exact S4.out | go_keep)
    ((first
      | (go_at_call 11; (with_reducible refine (RF.out _ VA.out).mono ?_); rintro e w4 ⟨A4, c4, rfl, hv, hb, hf⟩; (have K4 := Lib.hid (KF.out _ hb)); (have S4 := Lib.hid (SF.out _ K4.out)); (have V4 := Lib.hid hv); (have B4 := Lib.hid (VF.out _ K4.out)); clear hv hb hf)
      | (go_at_call 27; (with_reducible refine (SM.out _ _ _ V4.out B4.out).mono ?_); rintro e w5 ⟨rfl, hb⟩; (have K5 := Lib.hid (bon K4.out hb)); (have S5 := Lib.hid (SF.out _ K5.out)); clear hb)))
  rename_i hHeld
  clear hHeld
  go_wp2
  go_ret
  exact ⟨rfl, B1.out.trans (K5.out.mono B1.out.size)⟩
end Go.Proofs.Ytlfjopjfolbmiaa
