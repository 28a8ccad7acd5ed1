/-
  cat.Without.
-/
import Derived.Test.YtlfjopjfolbmiaaCi
namespace Go.Proofs.Ytlfjopjfolbmiaa
open Go.RowKit
/-- Without version i. -/
def cutAt (vs : List (Int × Int)) (i : Nat) : List (Int × Int) := vs.take i ++ vs.drop (i + 1)
/-- The place that may be left out. -/
def outP (next : Int) (vs : List (Int × Int)) (n : Int) : Option Nat :=
  match findP vs n with
  | none => none
  | some i => if rightB next vs = true ∧ n ≠ 0 ∧ i + 1 ≠ vs.length then some i else none
theorem Vs.drop {w : World} {b off c : Nat} {vs : List (Int × Int)} (h : Vs w (some ⟨b, off, none⟩) c vs) (k : Nat) (hk : k ≤ vs.length) : Vs w (some ⟨b, off + k * 2, none⟩) (c - k) (vs.drop k) := by
  refine ⟨by rw [List.length_drop]; have := h.1; omega, fun h0 => ?_⟩
  rw [List.length_drop] at h0
  obtain ⟨b', off', e, hb, hc⟩ := h.2 (by omega)
  injection e with e
  injection e with e1 e2
  subst e1 e2
  refine ⟨b, off + k * 2, rfl, hb, fun j hj => ?_⟩
  rw [List.length_drop] at hj
  have e2 : at2 (vs.drop k) j = at2 vs (k + j) := by unfold at2; rw [List.getElem?_drop]
  have := hc (k + j) (by omega)
  rw [e2, show off + k * 2 + j * 2 = off + (k + j) * 2 by omega]
  exact this
set_option maxHeartbeats 2000000 in
set_option maxRecDepth 100000 in
theorem out_n1 (next : Int) (A : Option Addr) (c : Nat) (vs : List (Int × Int)) (n : Int) (w : World) (h : Vs w A c vs) (hl : vs.length ≤ 1000000) (hf : findP vs n = none) :
    Calls Try.prog 21 #[.agg #[.int .i64 next, .slice A vs.length c], .int .i64 n] w fun e w' => e = .returned (.tuple #[.agg #[.int .i64 0, .slice none 0 0], .bool false]) ∧ Below w.heap.size w w' := by
  have FD := Lib.hid (fun V (hV : Vs V A c vs) => find_none next A c vs n V hV hl hf)
  clear hf
  have H := Lib.hid h
  clear h
  go_enter Try.func21, Try.ntmps21
  go_wp2_with fail
  refine (FD.out _ (H.out.below (bon (bda _ _) (bda _ _)))).mono ?_
  rintro e w2 ⟨rfl, hb⟩
  have r1 := row_on (row_on (heap_alloc_new w (.cells #[.int .i64 next, .slice A vs.length c] 24)) (bda _ (.cells #[.int .i64 0, .slice none 0 0] 24))) hb
  have r2 := row_on (heap_alloc_new (w.alloc (.cells #[.int .i64 next, .slice A vs.length c] 24)) (.cells #[.int .i64 0, .slice none 0 0] 24)) hb
  have K2 := Lib.hid (bon (bon (bda w (.cells #[.int .i64 next, .slice A vs.length c] 24)) (bda _ (.cells #[.int .i64 0, .slice none 0 0] 24))) hb)
  have V2 := Lib.hid ((H.out.below (bon (bda w (.cells #[.int .i64 next, .slice A vs.length c] 24)) (bda _ (.cells #[.int .i64 0, .slice none 0 0] 24)))).below hb)
  clear hb
  simp only [World.size_alloc] at r2
  have R1 := Lib.hid r1
  have R2 := Lib.hid r2
  clear r1 r2
  have f0 : w2.cell? ⟨w.heap.size, 0, none⟩ = some (.int .i64 next) := row_c R1.out (i := 0) rfl
  have f1 : w2.cell? ⟨w.heap.size, 1, none⟩ = some (.slice A vs.length c) := row_c R1.out (i := 1) rfl
  have q0 : w2.cell? ⟨w.heap.size + 1, 0, none⟩ = some (.int .i64 0) := row_c R2.out (i := 0) rfl
  have q1 : w2.cell? ⟨w.heap.size + 1, 1, none⟩ = some (.slice none 0 0) := row_c R2.out (i := 1) rfl
  have z0 := frozen_of_row _ _ 0 _ _ R2.out
  have z1 := frozen_of_row _ _ 1 _ _ R2.out
  go_wp2
  refine bodyPost_ret (v := .tuple #[.agg #[.int .i64 0, .slice none 0 0], .bool false]) (by simp [results, Try.results21, go_sem, q0, q1]) rfl ⟨rfl, ?_⟩
  exact (K2.out.setCell (by simp) _).setCell (by simp) _
set_option maxHeartbeats 2000000 in
set_option maxRecDepth 100000 in
theorem out_n2 (next : Int) (A : Option Addr) (c : Nat) (vs : List (Int × Int)) (n : Int) (w : World) (h : Vs w A c vs) (hl : vs.length ≤ 1000000) (i : Nat) (hf : findP vs n = some i) (hr : rightB next vs = false) :
    Calls Try.prog 21 #[.agg #[.int .i64 next, .slice A vs.length c], .int .i64 n] w fun e w' => e = .returned (.tuple #[.agg #[.int .i64 0, .slice none 0 0], .bool false]) ∧ Below w.heap.size w w' := by
  have FD := Lib.hid (fun V (hV : Vs V A c vs) => find_some next A c vs n i V hV hl hf)
  clear hf
  have RG := Lib.hid (fun V (hV : Vs V A c vs) => right_any next A c vs V hV hl)
  rw [hr] at RG
  clear hr
  have H := Lib.hid h
  clear h
  go_enter Try.func21, Try.ntmps21
  go_wp2_with fail
  refine (FD.out _ (H.out.below (bon (bda _ _) (bda _ _)))).mono ?_
  rintro e w2 ⟨rfl, hb⟩
  have r1 := row_on (row_on (heap_alloc_new w (.cells #[.int .i64 next, .slice A vs.length c] 24)) (bda _ (.cells #[.int .i64 0, .slice none 0 0] 24))) hb
  have r2 := row_on (heap_alloc_new (w.alloc (.cells #[.int .i64 next, .slice A vs.length c] 24)) (.cells #[.int .i64 0, .slice none 0 0] 24)) hb
  have K2 := Lib.hid (bon (bon (bda w (.cells #[.int .i64 next, .slice A vs.length c] 24)) (bda _ (.cells #[.int .i64 0, .slice none 0 0] 24))) hb)
  have V2 := Lib.hid ((H.out.below (bon (bda w (.cells #[.int .i64 next, .slice A vs.length c] 24)) (bda _ (.cells #[.int .i64 0, .slice none 0 0] 24)))).below hb)
  clear hb
  simp only [World.size_alloc] at r2
  have R1 := Lib.hid r1
  have R2 := Lib.hid r2
  clear r1 r2
  have f0 : w2.cell? ⟨w.heap.size, 0, none⟩ = some (.int .i64 next) := row_c R1.out (i := 0) rfl
  have f1 : w2.cell? ⟨w.heap.size, 1, none⟩ = some (.slice A vs.length c) := row_c R1.out (i := 1) rfl
  have q0 : w2.cell? ⟨w.heap.size + 1, 0, none⟩ = some (.int .i64 0) := row_c R2.out (i := 0) rfl
  have q1 : w2.cell? ⟨w.heap.size + 1, 1, none⟩ = some (.slice none 0 0) := row_c R2.out (i := 1) rfl
  have z0 := frozen_of_row _ _ 0 _ _ R2.out
  have z1 := frozen_of_row _ _ 1 _ _ R2.out
  go_wp2_with fail
  refine (RG.out _ V2.out).mono ?_
  rintro e w3 ⟨rfl, hb⟩
  have K3 := Lib.hid (bon K2.out hb)
  have V3 := Lib.hid (V2.out.below hb)
  have R13 := Lib.hid (row_on R1.out hb)
  have R23 := Lib.hid (row_on R2.out hb)
  clear hb f0 f1 q0 q1 z0 z1
  have f0 : w3.cell? ⟨w.heap.size, 0, none⟩ = some (.int .i64 next) := row_c R13.out (i := 0) rfl
  have f1 : w3.cell? ⟨w.heap.size, 1, none⟩ = some (.slice A vs.length c) := row_c R13.out (i := 1) rfl
  have q0 : w3.cell? ⟨w.heap.size + 1, 0, none⟩ = some (.int .i64 0) := row_c R23.out (i := 0) rfl
  have q1 : w3.cell? ⟨w.heap.size + 1, 1, none⟩ = some (.slice none 0 0) := row_c R23.out (i := 1) rfl
  have z0 := frozen_of_row _ _ 0 _ _ R23.out
  have z1 := frozen_of_row _ _ 1 _ _ R23.out
  go_wp2
  refine bodyPost_ret (v := .tuple #[.agg #[.int .i64 0, .slice none 0 0], .bool false]) (by simp [results, Try.results21, go_sem, q0, q1]) rfl ⟨rfl, ?_⟩
  exact (K3.out.setCell (by simp) _).setCell (by simp) _
set_option maxHeartbeats 2000000 in
set_option maxRecDepth 100000 in
theorem out_n3 (next : Int) (A : Option Addr) (c : Nat) (vs : List (Int × Int)) (n : Int) (w : World) (h : Vs w A c vs) (hl : vs.length ≤ 1000000) (i : Nat) (hf : findP vs n = some i) (hr : rightB next vs = true) (hz : n = 0) :
    Calls Try.prog 21 #[.agg #[.int .i64 next, .slice A vs.length c], .int .i64 n] w fun e w' => e = .returned (.tuple #[.agg #[.int .i64 0, .slice none 0 0], .bool false]) ∧ Below w.heap.size w w' := by
  have FD := Lib.hid (fun V (hV : Vs V A c vs) => find_some next A c vs n i V hV hl hf)
  clear hf
  have RG := Lib.hid (fun V (hV : Vs V A c vs) => right_any next A c vs V hV hl)
  rw [hr] at RG
  clear hr
  have d0 : (n == 0) = true := by simpa using hz
  clear hz
  have H := Lib.hid h
  clear h
  go_enter Try.func21, Try.ntmps21
  go_wp2_with fail
  refine (FD.out _ (H.out.below (bon (bda _ _) (bda _ _)))).mono ?_
  rintro e w2 ⟨rfl, hb⟩
  have r1 := row_on (row_on (heap_alloc_new w (.cells #[.int .i64 next, .slice A vs.length c] 24)) (bda _ (.cells #[.int .i64 0, .slice none 0 0] 24))) hb
  have r2 := row_on (heap_alloc_new (w.alloc (.cells #[.int .i64 next, .slice A vs.length c] 24)) (.cells #[.int .i64 0, .slice none 0 0] 24)) hb
  have K2 := Lib.hid (bon (bon (bda w (.cells #[.int .i64 next, .slice A vs.length c] 24)) (bda _ (.cells #[.int .i64 0, .slice none 0 0] 24))) hb)
  have V2 := Lib.hid ((H.out.below (bon (bda w (.cells #[.int .i64 next, .slice A vs.length c] 24)) (bda _ (.cells #[.int .i64 0, .slice none 0 0] 24)))).below hb)
  clear hb
  simp only [World.size_alloc] at r2
  have R1 := Lib.hid r1
  have R2 := Lib.hid r2
  clear r1 r2
  have f0 : w2.cell? ⟨w.heap.size, 0, none⟩ = some (.int .i64 next) := row_c R1.out (i := 0) rfl
  have f1 : w2.cell? ⟨w.heap.size, 1, none⟩ = some (.slice A vs.length c) := row_c R1.out (i := 1) rfl
  have q0 : w2.cell? ⟨w.heap.size + 1, 0, none⟩ = some (.int .i64 0) := row_c R2.out (i := 0) rfl
  have q1 : w2.cell? ⟨w.heap.size + 1, 1, none⟩ = some (.slice none 0 0) := row_c R2.out (i := 1) rfl
  have z0 := frozen_of_row _ _ 0 _ _ R2.out
  have z1 := frozen_of_row _ _ 1 _ _ R2.out
  go_wp2_with fail
  refine (RG.out _ V2.out).mono ?_
  rintro e w3 ⟨rfl, hb⟩
  have K3 := Lib.hid (bon K2.out hb)
  have V3 := Lib.hid (V2.out.below hb)
  have R13 := Lib.hid (row_on R1.out hb)
  have R23 := Lib.hid (row_on R2.out hb)
  clear hb f0 f1 q0 q1 z0 z1
  have f0 : w3.cell? ⟨w.heap.size, 0, none⟩ = some (.int .i64 next) := row_c R13.out (i := 0) rfl
  have f1 : w3.cell? ⟨w.heap.size, 1, none⟩ = some (.slice A vs.length c) := row_c R13.out (i := 1) rfl
  have q0 : w3.cell? ⟨w.heap.size + 1, 0, none⟩ = some (.int .i64 0) := row_c R23.out (i := 0) rfl
  have q1 : w3.cell? ⟨w.heap.size + 1, 1, none⟩ = some (.slice none 0 0) := row_c R23.out (i := 1) rfl
  have z0 := frozen_of_row _ _ 0 _ _ R23.out
  have z1 := frozen_of_row _ _ 1 _ _ R23.out
  go_wp2
  refine bodyPost_ret (v := .tuple #[.agg #[.int .i64 0, .slice none 0 0], .bool false]) (by simp [results, Try.results21, go_sem, q0, q1]) rfl ⟨rfl, ?_⟩
  exact (K3.out.setCell (by simp) _).setCell (by simp) _
set_option maxHeartbeats 2000000 in
set_option maxRecDepth 100000 in
theorem out_n4 (next : Int) (A : Option Addr) (c : Nat) (vs : List (Int × Int)) (n : Int) (w : World) (h : Vs w A c vs) (hl : vs.length ≤ 1000000) (i : Nat) (hf : findP vs n = some i) (hr : rightB next vs = true) (hz : n ≠ 0) (hi : i + 1 = vs.length) :
    Calls Try.prog 21 #[.agg #[.int .i64 next, .slice A vs.length c], .int .i64 n] w fun e w' => e = .returned (.tuple #[.agg #[.int .i64 0, .slice none 0 0], .bool false]) ∧ Below w.heap.size w w' := by
  have FD := Lib.hid (fun V (hV : Vs V A c vs) => find_some next A c vs n i V hV hl hf)
  clear hf
  have RG := Lib.hid (fun V (hV : Vs V A c vs) => right_any next A c vs V hV hl)
  rw [hr] at RG
  clear hr
  have d0 : (n == 0) = false := by simpa using hz
  have d1 : ((i : Int) == (vs.length : Int) - 1) = true := beq_iff_eq.2 (by omega)
  clear hz hi
  have H := Lib.hid h
  clear h
  go_enter Try.func21, Try.ntmps21
  go_wp2_with fail
  refine (FD.out _ (H.out.below (bon (bda _ _) (bda _ _)))).mono ?_
  rintro e w2 ⟨rfl, hb⟩
  have r1 := row_on (row_on (heap_alloc_new w (.cells #[.int .i64 next, .slice A vs.length c] 24)) (bda _ (.cells #[.int .i64 0, .slice none 0 0] 24))) hb
  have r2 := row_on (heap_alloc_new (w.alloc (.cells #[.int .i64 next, .slice A vs.length c] 24)) (.cells #[.int .i64 0, .slice none 0 0] 24)) hb
  have K2 := Lib.hid (bon (bon (bda w (.cells #[.int .i64 next, .slice A vs.length c] 24)) (bda _ (.cells #[.int .i64 0, .slice none 0 0] 24))) hb)
  have V2 := Lib.hid ((H.out.below (bon (bda w (.cells #[.int .i64 next, .slice A vs.length c] 24)) (bda _ (.cells #[.int .i64 0, .slice none 0 0] 24)))).below hb)
  clear hb
  simp only [World.size_alloc] at r2
  have R1 := Lib.hid r1
  have R2 := Lib.hid r2
  clear r1 r2
  have f0 : w2.cell? ⟨w.heap.size, 0, none⟩ = some (.int .i64 next) := row_c R1.out (i := 0) rfl
  have f1 : w2.cell? ⟨w.heap.size, 1, none⟩ = some (.slice A vs.length c) := row_c R1.out (i := 1) rfl
  have q0 : w2.cell? ⟨w.heap.size + 1, 0, none⟩ = some (.int .i64 0) := row_c R2.out (i := 0) rfl
  have q1 : w2.cell? ⟨w.heap.size + 1, 1, none⟩ = some (.slice none 0 0) := row_c R2.out (i := 1) rfl
  have z0 := frozen_of_row _ _ 0 _ _ R2.out
  have z1 := frozen_of_row _ _ 1 _ _ R2.out
  go_wp2_with fail
  refine (RG.out _ V2.out).mono ?_
  rintro e w3 ⟨rfl, hb⟩
  have K3 := Lib.hid (bon K2.out hb)
  have V3 := Lib.hid (V2.out.below hb)
  have R13 := Lib.hid (row_on R1.out hb)
  have R23 := Lib.hid (row_on R2.out hb)
  clear hb f0 f1 q0 q1 z0 z1
  have f0 : w3.cell? ⟨w.heap.size, 0, none⟩ = some (.int .i64 next) := row_c R13.out (i := 0) rfl
  have f1 : w3.cell? ⟨w.heap.size, 1, none⟩ = some (.slice A vs.length c) := row_c R13.out (i := 1) rfl
  have q0 : w3.cell? ⟨w.heap.size + 1, 0, none⟩ = some (.int .i64 0) := row_c R23.out (i := 0) rfl
  have q1 : w3.cell? ⟨w.heap.size + 1, 1, none⟩ = some (.slice none 0 0) := row_c R23.out (i := 1) rfl
  have z0 := frozen_of_row _ _ 0 _ _ R23.out
  have z1 := frozen_of_row _ _ 1 _ _ R23.out
  go_wp2
  refine bodyPost_ret (v := .tuple #[.agg #[.int .i64 0, .slice none 0 0], .bool false]) (by simp [results, Try.results21, go_sem, q0, q1]) rfl ⟨rfl, ?_⟩
  exact (K3.out.setCell (by simp) _).setCell (by simp) _
set_option maxHeartbeats 4000000 in
set_option maxRecDepth 100000 in
theorem out_yes (next : Int) (A : Option Addr) (c : Nat) (vs : List (Int × Int)) (n : Int) (w : World) (h : Vs w A c vs) (i : Nat) (hf : findP vs n = some i) (hr : rightB next vs = true) (hz : n ≠ 0) (hi : i + 1 < vs.length) :
    Calls Try.prog 21 #[.agg #[.int .i64 next, .slice A vs.length c], .int .i64 n] w fun e w' => ∃ A' c', e = .returned (.tuple #[.agg #[.int .i64 next, .slice A' (cutAt vs i).length c'], .bool true]) ∧ Vs w' A' c' (cutAt vs i) ∧ Below w.heap.size w w' ∧ Fr w.heap.size A' := by
  have hl : vs.length ≤ 1000000 := by have := (right_all hr).2.2.1; omega
  have l12 := (right_all hr).2.2.1
  have FD := Lib.hid (fun V (hV : Vs V A c vs) => find_some next A c vs n i V hV hl hf)
  clear hf
  have RG := Lib.hid (fun V (hV : Vs V A c vs) => right_any next A c vs V hV hl)
  rw [hr] at RG
  clear hr
  have d0 : (n == 0) = false := by simpa using hz
  have d1 : ((i : Int) == (vs.length : Int) - 1) = false := beq_eq_false_iff_ne.2 (by omega)
  obtain ⟨b, off, hA, _, _⟩ := h.2 (by omega)
  subst hA
  have hcap := h.1
  have H := Lib.hid h
  clear h hz
  obtain ⟨zs, hzs⟩ : ∃ zs, cutAt vs i = zs := ⟨_, rfl⟩
  rw [hzs]
  have HZ := Lib.hid (show vs.take i ++ vs.drop (i + 1) = zs from hzs)
  clear hzs
  have LT := Lib.hid (show (vs.take i).length = i by rw [List.length_take]; omega)
  have LD := Lib.hid (show (vs.drop (i + 1)).length = vs.length - (i + 1) by rw [List.length_drop])
  go_enter Try.func21, Try.ntmps21
  go_wp2_with fail
  refine (FD.out _ (H.out.below (bon (bda _ _) (bda _ _)))).mono ?_
  rintro e w2 ⟨rfl, hb⟩
  have r1 := row_on (row_on (heap_alloc_new w (.cells #[.int .i64 next, .slice (some ⟨b, off, none⟩) vs.length c] 24)) (bda _ (.cells #[.int .i64 0, .slice none 0 0] 24))) hb
  have r2 := row_on (heap_alloc_new (w.alloc (.cells #[.int .i64 next, .slice (some ⟨b, off, none⟩) vs.length c] 24)) (.cells #[.int .i64 0, .slice none 0 0] 24)) hb
  have K2 := Lib.hid (bon (bon (bda w (.cells #[.int .i64 next, .slice (some ⟨b, off, none⟩) vs.length c] 24)) (bda _ (.cells #[.int .i64 0, .slice none 0 0] 24))) hb)
  have V2 := Lib.hid ((H.out.below (bon (bda w (.cells #[.int .i64 next, .slice (some ⟨b, off, none⟩) vs.length c] 24)) (bda _ (.cells #[.int .i64 0, .slice none 0 0] 24)))).below hb)
  clear hb
  simp only [World.size_alloc] at r2
  have R1 := Lib.hid r1
  have R2 := Lib.hid r2
  clear r1 r2
  have f0 : w2.cell? ⟨w.heap.size, 0, none⟩ = some (.int .i64 next) := row_c R1.out (i := 0) rfl
  have f1 : w2.cell? ⟨w.heap.size, 1, none⟩ = some (.slice (some ⟨b, off, none⟩) vs.length c) := row_c R1.out (i := 1) rfl
  have q0 : w2.cell? ⟨w.heap.size + 1, 0, none⟩ = some (.int .i64 0) := row_c R2.out (i := 0) rfl
  have q1 : w2.cell? ⟨w.heap.size + 1, 1, none⟩ = some (.slice none 0 0) := row_c R2.out (i := 1) rfl
  have z0 := frozen_of_row _ _ 0 _ _ R2.out
  have z1 := frozen_of_row _ _ 1 _ _ R2.out
  go_wp2_with fail
  refine (RG.out _ V2.out).mono ?_
  rintro e w3 ⟨rfl, hb⟩
  have K3 := Lib.hid (bon K2.out hb)
  have V3 := Lib.hid (V2.out.below hb)
  have R13 := Lib.hid (row_on R1.out hb)
  have R23 := Lib.hid (row_on R2.out hb)
  clear hb f0 f1 q0 q1 z0 z1
  have f0 : w3.cell? ⟨w.heap.size, 0, none⟩ = some (.int .i64 next) := row_c R13.out (i := 0) rfl
  have f1 : w3.cell? ⟨w.heap.size, 1, none⟩ = some (.slice (some ⟨b, off, none⟩) vs.length c) := row_c R13.out (i := 1) rfl
  have q0 : w3.cell? ⟨w.heap.size + 1, 0, none⟩ = some (.int .i64 0) := row_c R23.out (i := 0) rfl
  have q1 : w3.cell? ⟨w.heap.size + 1, 1, none⟩ = some (.slice none 0 0) := row_c R23.out (i := 1) rfl
  have z0 := frozen_of_row _ _ 0 _ _ R23.out
  have z1 := frozen_of_row _ _ 1 _ _ R23.out
  go_upto_region 4 with (fail)
  have VT1 := Lib.hid ((V3.out.take i))
  have VD1 := Lib.hid (V3.out.drop (i + 1) (by omega))
  have CA := Lib.hid (concat_any (some ⟨b, off, none⟩) (some ⟨b, off + (i + 1) * 2, none⟩) c (c - (i + 1)) (vs.take i) (vs.drop (i + 1)) w3.heap.size ((w3.alloc (.cells #[.slice (some ⟨b, off, none⟩) i c, .slice (some ⟨b, off + (i + 1) * 2, none⟩) (vs.length - (i + 1)) (c - (i + 1))] 22)).drew) (VT1.out.below (below_drew (bda _ _))) (VD1.out.below (below_drew (bda _ _)))
    (by rw [LT.out]; exact row_c (w := World.drew _) (heap_alloc_new w3 _) (i := 0) rfl) (by rw [LD.out]; exact row_c (w := World.drew _) (heap_alloc_new w3 _) (i := 1) rfl) (by rw [LT.out]; omega) (by rw [LD.out]; omega))
  rw [HZ.out] at CA
  have KC := Lib.hid (show Below w3.heap.size w3 ((w3.alloc (.cells #[.slice (some ⟨b, off, none⟩) i c, .slice (some ⟨b, off + (i + 1) * 2, none⟩) (vs.length - (i + 1)) (c - (i + 1))] 22)).drew) from below_drew (bda _ _))
  have SW := Lib.hid KC.out.size
  have sb := World.block_lt_of_cell? w3 _ f0
  have F0 := Lib.hid (And.intro f0 f1)
  have a1 : IntKind.i64.wrap ((i : Int) + 1) = (i : Int) + 1 := IntWalk.i64_in _ (by omega)
  have a2 : (0 : Int) ≤ (i : Int) + 1 := by omega
  have a3 : ((i : Int) + 1).toNat = i + 1 := by omega
  have a4 : (i : Int) + 1 ≤ (vs.length : Int) := by omega
  have a7 : c ≠ i + 1 := by omega
  have a5 : (i : Int) ≤ (c : Int) := by omega
  have a6 : (vs.length : Int) ≤ (c : Int) := by omega
  go_region_held3 (fun w' => w'.cell? ⟨w.heap.size, 0, none⟩ = some (.int .i64 next) ∧ w'.cell? ⟨w.heap.size, 1, none⟩ = some (.slice (some ⟨b, off, none⟩) vs.length c))
    (first | with_reducible exact S3.out | go_keep)
    ((go_at_call 32; (with_reducible refine CA.out.mono ?_); rintro e w4 ⟨A4, c4, rfl, hv, hb, hf⟩; (have F4 := Lib.hid hf); (have K4 := Lib.hid (KC.out.trans (hb.mono SW.out))); (have S3 := Lib.hid (And.intro ((K4.out.cell (p := ⟨w.heap.size, 0, none⟩) sb).trans F0.out.1) ((K4.out.cell (p := ⟨w.heap.size, 1, none⟩) sb).trans F0.out.2))); (have V4 := Lib.hid hv); (have r4 := row_on R23.out K4.out); clear q0 q1 z0 z1; (have q0 := row_c r4 (i := 0) rfl); (have q1 := row_c r4 (i := 1) rfl); (have z0 := frozen_of_row _ _ 0 _ _ r4); (have z1 := frozen_of_row _ _ 1 _ _ r4); (have R4 := Lib.hid r4); clear hv hb hf r4))
  rename_i hHeld
  clear hHeld
  go_wp2
  refine bodyPost_ret (v := .tuple #[.agg #[.int .i64 next, .slice A4 zs.length c4], .bool true]) (by simp [results, Try.results21, go_sem, q0, q1]) rfl ⟨A4, c4, rfl, ?_, ?_, fun b o e => Nat.le_trans K3.out.size (Nat.le_trans SW.out (F4.out b o e))⟩
  · exact (V4.out.set F4.out (by have := heap_lt R23.out; have := SW.out; omega) _ _).set F4.out (by have := heap_lt R23.out; have := SW.out; omega) _ _
  · exact ((K3.out.trans (K4.out.mono K3.out.size)).setCell (by simp) _).setCell (by simp) _
theorem out_no (next : Int) (A : Option Addr) (c : Nat) (vs : List (Int × Int)) (n : Int) (w : World) (h : Vs w A c vs) (hl : vs.length ≤ 1000000) (ho : outP next vs n = none) :
    Calls Try.prog 21 #[.agg #[.int .i64 next, .slice A vs.length c], .int .i64 n] w fun e w' => e = .returned (.tuple #[.agg #[.int .i64 0, .slice none 0 0], .bool false]) ∧ Below w.heap.size w w' := by
  unfold outP at ho
  rcases hf : findP vs n with _ | i
  · exact out_n1 next A c vs n w h hl hf
  · rw [hf] at ho
    simp only at ho
    cases hr : rightB next vs
    · exact out_n2 next A c vs n w h hl i hf hr
    · by_cases hz : n = 0
      · exact out_n3 next A c vs n w h hl i hf hr hz
      · by_cases hi : i + 1 = vs.length
        · exact out_n4 next A c vs n w h hl i hf hr hz hi
        · rw [if_pos ⟨hr, hz, hi⟩] at ho; cases ho
theorem outP_some {next : Int} {vs : List (Int × Int)} {n : Int} {i : Nat} (ho : outP next vs n = some i) : findP vs n = some i ∧ rightB next vs = true ∧ n ≠ 0 ∧ i + 1 < vs.length := by
  unfold outP at ho
  rcases hf : findP vs n with _ | j
  · rw [hf] at ho; cases ho
  · rw [hf] at ho
    simp only at ho
    split at ho
    · rename_i hh
      injection ho with ho
      subst ho
      refine ⟨rfl, hh.1, hh.2.1, ?_⟩
      unfold findP at hf
      rw [if_neg hh.2.1] at hf
      have := (idxOf_lt hf).2
      have := hh.2.2
      omega
    · cases ho
end Go.Proofs.Ytlfjopjfolbmiaa
