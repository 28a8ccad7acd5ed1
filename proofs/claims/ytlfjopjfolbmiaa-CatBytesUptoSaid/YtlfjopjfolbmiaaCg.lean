/-
  cat.With.
-/
import Derived.Test.YtlfjopjfolbmiaaCf
namespace Go.Proofs.Ytlfjopjfolbmiaa
open Go.RowKit
/-- May a version more be added? -/
def withB (next : Int) (vs : List (Int × Int)) (r : Int) : Bool := rightB next vs && !decide (vs.length = 12) && !decide (next = 16777216) && rootB r
set_option maxHeartbeats 2000000 in
set_option maxRecDepth 100000 in
theorem with_yes (next : Int) (A : Option Addr) (c : Nat) (vs : List (Int × Int)) (r : Int) (w : World) (h : Vs w A c vs) (hb : withB next vs r = true) :
    Calls Try.prog 19 #[.agg #[.int .i64 next, .slice A vs.length c], .int .i64 r] w fun e w' => ∃ A' c', e = .returned (.tuple #[.agg #[.int .i64 (next + 1), .slice A' (vs ++ [(next, r)]).length c'], .bool true]) ∧ Vs w' A' c' (vs ++ [(next, r)]) ∧ Below w.heap.size w w' ∧ Fr w.heap.size A' := by
  obtain ⟨zs, hzs⟩ : ∃ zs, vs ++ [(next, r)] = zs := ⟨_, rfl⟩
  rw [hzs]
  have HZ := Lib.hid hzs
  clear hzs
  unfold withB at hb
  simp only [Bool.and_eq_true, Bool.not_eq_true', decide_eq_false_iff_not] at hb
  obtain ⟨⟨⟨b1, b2⟩, b3⟩, b4⟩ := hb
  obtain ⟨a1, a2, a3, a4⟩ := right_all b1
  have RG := Lib.hid (fun V (hV : Vs V A c vs) => right_any next A c vs V hV (by omega))
  rw [b1] at RG
  have RB := Lib.hid (fun V => rooted_any r V)
  rw [b4] at RB
  have e1 : ((vs.length : Int) == 12) = false := by simp; omega
  have e2 : (next == 16777216) = false := by simpa using b3
  have hw : IntKind.i64.wrap (next + 1) = next + 1 := IntWalk.i64_in _ (by omega)
  have ll : vs.length ≤ 12 := a3
  have lo : 1 ≤ next := a1
  have hi : next ≤ 16777216 := a2
  clear a1 a2 a3 a4 b1 b2 b3 b4
  have H := Lib.hid h
  clear h
  go_enter Try.func19, Try.ntmps19
  go_wp2_with fail
  refine (RG.out _ (H.out.below (bon (bda _ _) (bda _ _)))).mono ?_
  rintro e w2 ⟨rfl, hb⟩
  have R1 := Lib.hid (row_on (row_on (heap_alloc_new w (.cells #[.int .i64 next, .slice A vs.length c] 24)) (bda _ (.cells #[.int .i64 0, .slice none 0 0] 24))) hb)
  have R2 := Lib.hid (row_on (heap_alloc_new (w.alloc (.cells #[.int .i64 next, .slice A vs.length c] 24)) (.cells #[.int .i64 0, .slice none 0 0] 24)) hb)
  have K2 := Lib.hid (bon (bon (bda w (.cells #[.int .i64 next, .slice A vs.length c] 24)) (bda _ (.cells #[.int .i64 0, .slice none 0 0] 24))) hb)
  clear hb
  have f0 : w2.cell? ⟨w.heap.size, 0, none⟩ = some (.int .i64 next) := row_c R1.out (i := 0) rfl
  have f1 : w2.cell? ⟨w.heap.size, 1, none⟩ = some (.slice A vs.length c) := row_c R1.out (i := 1) rfl
  have F := Lib.hid (And.intro f0 f1)
  go_wp2_with fail
  refine (RB.out _).mono ?_
  rintro e w3 ⟨rfl, rfl⟩
  go_wp2_with fail
  have r2 : w2.heap[w.heap.size + 1]? = some (.cells #[.int .i64 0, .slice none 0 0] 24) := by have := R2.out; simpa using this
  have HVW := Lib.hid ((H.out.below K2.out))
  have CA := Lib.hid (concat_any A (some ⟨w2.heap.size, 0, none⟩) c 1 vs [(next, r)] (w2.heap.size + 1) (((w2.alloc (.cells #[.int .i64 next, .int .i64 r] 53)).alloc (.cells #[.slice A vs.length c, .slice (some ⟨w2.heap.size, 0, none⟩) 1 1] 22)).drew)
    (HVW.out.below (below_drew (bon (bda _ _) (bda _ _))))
    ⟨by simp, fun _ => ⟨w2.heap.size, 0, rfl, by simp; omega, fun j hj => by
      obtain rfl : j = 0 := by simpa using hj
      have q := row_on (heap_alloc_new w2 (.cells #[.int .i64 next, .int .i64 r] 53)) (below_drew (bda _ (.cells #[.slice A vs.length c, .slice (some ⟨w2.heap.size, 0, none⟩) 1 1] 22)))
      exact ⟨row_c q (i := 0) rfl, row_c q (i := 1) rfl⟩⟩⟩
    (by have q := heap_alloc_new (w2.alloc (.cells #[.int .i64 next, .int .i64 r] 53)) (.cells #[.slice A vs.length c, .slice (some ⟨w2.heap.size, 0, none⟩) 1 1] 22); simp only [World.size_alloc] at q; exact row_c (w := (World.drew _)) q (i := 0) rfl)
    (by have q := heap_alloc_new (w2.alloc (.cells #[.int .i64 next, .int .i64 r] 53)) (.cells #[.slice A vs.length c, .slice (some ⟨w2.heap.size, 0, none⟩) 1 1] 22); simp only [World.size_alloc] at q; exact row_c (w := (World.drew _)) q (i := 1) rfl)
    (by omega) (by simp))
  rw [HZ.out] at CA
  have SW := Lib.hid (show w2.heap.size ≤ (((w2.alloc (.cells #[.int .i64 next, .int .i64 r] 53)).alloc (.cells #[.slice A vs.length c, .slice (some ⟨w2.heap.size, 0, none⟩) 1 1] 22)).drew).heap.size by simp; omega)
  have KC := Lib.hid (show Below w2.heap.size w2 (((w2.alloc (.cells #[.int .i64 next, .int .i64 r] 53)).alloc (.cells #[.slice A vs.length c, .slice (some ⟨w2.heap.size, 0, none⟩) 1 1] 22)).drew) from below_drew (bon (bda _ _) (bda _ _)))
  have RR := Lib.hid r2
  clear r2
  have sb := World.block_lt_of_cell? w2 _ f0
  go_region_held3 (fun w' => w'.cell? ⟨w.heap.size, 0, none⟩ = some (.int .i64 next) ∧ w'.cell? ⟨w.heap.size, 1, none⟩ = some (.slice A vs.length c))
    (first | with_reducible exact S3.out | go_keep)
    ((go_at_call 32; (with_reducible refine CA.out.mono ?_); rintro e w4 ⟨A4, c4, rfl, hv, hb, hf⟩; (have F4 := Lib.hid hf); (have K4 := Lib.hid (KC.out.trans (hb.mono SW.out))); (have S3 := Lib.hid (And.intro ((K4.out.cell (p := ⟨w.heap.size, 0, none⟩) sb).trans F.out.1) ((K4.out.cell (p := ⟨w.heap.size, 1, none⟩) sb).trans F.out.2))); (have V4 := Lib.hid hv); (have r4 := row_on RR.out K4.out); (have q0 := row_c r4 (i := 0) rfl); (have q1 := row_c r4 (i := 1) rfl); (have z0 := frozen_of_row _ _ 0 _ _ r4); (have z1 := frozen_of_row _ _ 1 _ _ r4); (have R4 := Lib.hid r4); clear hv hb hf r4))
  rename_i hHeld
  clear hHeld
  go_wp2
  refine bodyPost_ret (v := .tuple #[.agg #[.int .i64 (next + 1), .slice A4 zs.length c4], .bool true]) (by simp [results, Try.results19, go_sem, q0, q1]) rfl ⟨A4, c4, rfl, ?_, ?_, fun b o e => Nat.le_trans K2.out.size (Nat.le_trans SW.out (F4.out b o e))⟩
  · exact (V4.out.set F4.out (by have := heap_lt RR.out; have := SW.out; omega) _ _).set F4.out (by have := heap_lt RR.out; have := SW.out; omega) _ _
  · exact ((K2.out.trans (K4.out.mono K2.out.size)).setCell (by simp) _).setCell (by simp) _
end Go.Proofs.Ytlfjopjfolbmiaa
