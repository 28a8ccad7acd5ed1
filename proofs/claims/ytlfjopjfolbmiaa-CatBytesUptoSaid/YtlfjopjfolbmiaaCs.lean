/-
  The document's With and Without, refused.
-/
import Derived.Test.YtlfjopjfolbmiaaCr
namespace Go.Proofs.Ytlfjopjfolbmiaa
open Go.RowKit
set_option maxHeartbeats 2000000 in
set_option maxRecDepth 100000 in
theorem rwith_n1 (next : Int) (A : Option Addr) (c : Nat) (vs : List (Int × Int)) (r : Int) (w : World) (h : Vs w A c vs) (hl : vs.length ≤ 1000000) (hb : rightB next vs = false) :
    Calls Try.prog 20 #[.agg #[.int .i64 next, .slice A vs.length c], .int .i64 r] w fun e w' => e = .returned (.tuple #[.agg #[.int .i64 0, .slice none 0 0], .bool false]) ∧ Below w.heap.size w w' := by
  have RG := Lib.hid (fun V (hV : Vs V A c vs) => rright_any next A c vs V hV hl)
  rw [hb] at RG
  clear hb
  have H := Lib.hid h
  clear h
  go_enter Try.func20, Try.ntmps20
  go_wp2_with fail
  refine (RG.out _ (H.out.below (bon (bda _ _) (bda _ _)))).mono ?_
  rintro e w2 ⟨rfl, hb⟩
  have R1 := Lib.hid (row_on (row_on (heap_alloc_new w (.cells #[.int .i64 next, .slice A vs.length c] 34)) (bda _ (.cells #[.int .i64 0, .slice none 0 0] 34))) hb)
  have r2 := row_on (heap_alloc_new (w.alloc (.cells #[.int .i64 next, .slice A vs.length c] 34)) (.cells #[.int .i64 0, .slice none 0 0] 34)) hb
  have K2 := Lib.hid (bon (bon (bda w (.cells #[.int .i64 next, .slice A vs.length c] 34)) (bda _ (.cells #[.int .i64 0, .slice none 0 0] 34))) hb)
  clear hb
  simp only [World.size_alloc] at r2
  have R2 := Lib.hid r2
  clear r2
  have f0 : w2.cell? ⟨w.heap.size, 0, none⟩ = some (.int .i64 next) := row_c R1.out (i := 0) rfl
  have f1 : w2.cell? ⟨w.heap.size, 1, none⟩ = some (.slice A vs.length c) := row_c R1.out (i := 1) rfl
  have q0 : w2.cell? ⟨w.heap.size + 1, 0, none⟩ = some (.int .i64 0) := row_c R2.out (i := 0) rfl
  have q1 : w2.cell? ⟨w.heap.size + 1, 1, none⟩ = some (.slice none 0 0) := row_c R2.out (i := 1) rfl
  have z0 := frozen_of_row _ _ 0 _ _ R2.out
  have z1 := frozen_of_row _ _ 1 _ _ R2.out
  go_wp2
  refine bodyPost_ret (v := .tuple #[.agg #[.int .i64 0, .slice none 0 0], .bool false]) (by simp [results, Try.results20, go_sem, q0, q1]) rfl ⟨rfl, ?_⟩
  exact (K2.out.setCell (by simp) _).setCell (by simp) _
set_option maxHeartbeats 2000000 in
set_option maxRecDepth 100000 in
theorem rwith_n2 (next : Int) (A : Option Addr) (c : Nat) (vs : List (Int × Int)) (r : Int) (w : World) (h : Vs w A c vs) (hl : vs.length ≤ 1000000) (hb : rightB next vs = true) (hd : vs.length = 12) :
    Calls Try.prog 20 #[.agg #[.int .i64 next, .slice A vs.length c], .int .i64 r] w fun e w' => e = .returned (.tuple #[.agg #[.int .i64 0, .slice none 0 0], .bool false]) ∧ Below w.heap.size w w' := by
  have RG := Lib.hid (fun V (hV : Vs V A c vs) => rright_any next A c vs V hV hl)
  rw [hb] at RG
  have e1 : ((vs.length : Int) == 12) = true := by simp; omega
  clear hd
  clear hb
  have H := Lib.hid h
  clear h
  go_enter Try.func20, Try.ntmps20
  go_wp2_with fail
  refine (RG.out _ (H.out.below (bon (bda _ _) (bda _ _)))).mono ?_
  rintro e w2 ⟨rfl, hb⟩
  have R1 := Lib.hid (row_on (row_on (heap_alloc_new w (.cells #[.int .i64 next, .slice A vs.length c] 34)) (bda _ (.cells #[.int .i64 0, .slice none 0 0] 34))) hb)
  have r2 := row_on (heap_alloc_new (w.alloc (.cells #[.int .i64 next, .slice A vs.length c] 34)) (.cells #[.int .i64 0, .slice none 0 0] 34)) hb
  have K2 := Lib.hid (bon (bon (bda w (.cells #[.int .i64 next, .slice A vs.length c] 34)) (bda _ (.cells #[.int .i64 0, .slice none 0 0] 34))) hb)
  clear hb
  simp only [World.size_alloc] at r2
  have R2 := Lib.hid r2
  clear r2
  have f0 : w2.cell? ⟨w.heap.size, 0, none⟩ = some (.int .i64 next) := row_c R1.out (i := 0) rfl
  have f1 : w2.cell? ⟨w.heap.size, 1, none⟩ = some (.slice A vs.length c) := row_c R1.out (i := 1) rfl
  have q0 : w2.cell? ⟨w.heap.size + 1, 0, none⟩ = some (.int .i64 0) := row_c R2.out (i := 0) rfl
  have q1 : w2.cell? ⟨w.heap.size + 1, 1, none⟩ = some (.slice none 0 0) := row_c R2.out (i := 1) rfl
  have z0 := frozen_of_row _ _ 0 _ _ R2.out
  have z1 := frozen_of_row _ _ 1 _ _ R2.out
  go_wp2
  refine bodyPost_ret (v := .tuple #[.agg #[.int .i64 0, .slice none 0 0], .bool false]) (by simp [results, Try.results20, go_sem, q0, q1]) rfl ⟨rfl, ?_⟩
  exact (K2.out.setCell (by simp) _).setCell (by simp) _
set_option maxHeartbeats 2000000 in
set_option maxRecDepth 100000 in
theorem rwith_n3 (next : Int) (A : Option Addr) (c : Nat) (vs : List (Int × Int)) (r : Int) (w : World) (h : Vs w A c vs) (hl : vs.length ≤ 1000000) (hb : rightB next vs = true) (hc : vs.length ≠ 12) (hd : next = 16777216) :
    Calls Try.prog 20 #[.agg #[.int .i64 next, .slice A vs.length c], .int .i64 r] w fun e w' => e = .returned (.tuple #[.agg #[.int .i64 0, .slice none 0 0], .bool false]) ∧ Below w.heap.size w w' := by
  have RG := Lib.hid (fun V (hV : Vs V A c vs) => rright_any next A c vs V hV hl)
  rw [hb] at RG
  have e1 : ((vs.length : Int) == 12) = false := by simp; omega
  have e2 : (next == 16777216) = true := by simpa using hd
  clear hc hd
  clear hb
  have H := Lib.hid h
  clear h
  go_enter Try.func20, Try.ntmps20
  go_wp2_with fail
  refine (RG.out _ (H.out.below (bon (bda _ _) (bda _ _)))).mono ?_
  rintro e w2 ⟨rfl, hb⟩
  have R1 := Lib.hid (row_on (row_on (heap_alloc_new w (.cells #[.int .i64 next, .slice A vs.length c] 34)) (bda _ (.cells #[.int .i64 0, .slice none 0 0] 34))) hb)
  have r2 := row_on (heap_alloc_new (w.alloc (.cells #[.int .i64 next, .slice A vs.length c] 34)) (.cells #[.int .i64 0, .slice none 0 0] 34)) hb
  have K2 := Lib.hid (bon (bon (bda w (.cells #[.int .i64 next, .slice A vs.length c] 34)) (bda _ (.cells #[.int .i64 0, .slice none 0 0] 34))) hb)
  clear hb
  simp only [World.size_alloc] at r2
  have R2 := Lib.hid r2
  clear r2
  have f0 : w2.cell? ⟨w.heap.size, 0, none⟩ = some (.int .i64 next) := row_c R1.out (i := 0) rfl
  have f1 : w2.cell? ⟨w.heap.size, 1, none⟩ = some (.slice A vs.length c) := row_c R1.out (i := 1) rfl
  have q0 : w2.cell? ⟨w.heap.size + 1, 0, none⟩ = some (.int .i64 0) := row_c R2.out (i := 0) rfl
  have q1 : w2.cell? ⟨w.heap.size + 1, 1, none⟩ = some (.slice none 0 0) := row_c R2.out (i := 1) rfl
  have z0 := frozen_of_row _ _ 0 _ _ R2.out
  have z1 := frozen_of_row _ _ 1 _ _ R2.out
  go_wp2
  refine bodyPost_ret (v := .tuple #[.agg #[.int .i64 0, .slice none 0 0], .bool false]) (by simp [results, Try.results20, go_sem, q0, q1]) rfl ⟨rfl, ?_⟩
  exact (K2.out.setCell (by simp) _).setCell (by simp) _
set_option maxHeartbeats 2000000 in
set_option maxRecDepth 100000 in
theorem rwith_n4 (next : Int) (A : Option Addr) (c : Nat) (vs : List (Int × Int)) (r : Int) (w : World) (h : Vs w A c vs) (hl : vs.length ≤ 1000000) (hb : rightB next vs = true) (hc : vs.length ≠ 12) (hd : next ≠ 16777216) (he : rootB r = false) :
    Calls Try.prog 20 #[.agg #[.int .i64 next, .slice A vs.length c], .int .i64 r] w fun e w' => e = .returned (.tuple #[.agg #[.int .i64 0, .slice none 0 0], .bool false]) ∧ Below w.heap.size w w' := by
  have RG := Lib.hid (fun V (hV : Vs V A c vs) => rright_any next A c vs V hV hl)
  rw [hb] at RG
  have RB := Lib.hid (fun V => rroot_any r V)
  rw [he] at RB
  have e1 : ((vs.length : Int) == 12) = false := by simp; omega
  have e2 : (next == 16777216) = false := by simpa using hd
  clear hc hd he
  clear hb
  have H := Lib.hid h
  clear h
  go_enter Try.func20, Try.ntmps20
  go_wp2_with fail
  refine (RG.out _ (H.out.below (bon (bda _ _) (bda _ _)))).mono ?_
  rintro e w2 ⟨rfl, hb⟩
  have R1 := Lib.hid (row_on (row_on (heap_alloc_new w (.cells #[.int .i64 next, .slice A vs.length c] 34)) (bda _ (.cells #[.int .i64 0, .slice none 0 0] 34))) hb)
  have r2 := row_on (heap_alloc_new (w.alloc (.cells #[.int .i64 next, .slice A vs.length c] 34)) (.cells #[.int .i64 0, .slice none 0 0] 34)) hb
  have K2 := Lib.hid (bon (bon (bda w (.cells #[.int .i64 next, .slice A vs.length c] 34)) (bda _ (.cells #[.int .i64 0, .slice none 0 0] 34))) hb)
  clear hb
  simp only [World.size_alloc] at r2
  have R2 := Lib.hid r2
  clear r2
  have f0 : w2.cell? ⟨w.heap.size, 0, none⟩ = some (.int .i64 next) := row_c R1.out (i := 0) rfl
  have f1 : w2.cell? ⟨w.heap.size, 1, none⟩ = some (.slice A vs.length c) := row_c R1.out (i := 1) rfl
  have q0 : w2.cell? ⟨w.heap.size + 1, 0, none⟩ = some (.int .i64 0) := row_c R2.out (i := 0) rfl
  have q1 : w2.cell? ⟨w.heap.size + 1, 1, none⟩ = some (.slice none 0 0) := row_c R2.out (i := 1) rfl
  have z0 := frozen_of_row _ _ 0 _ _ R2.out
  have z1 := frozen_of_row _ _ 1 _ _ R2.out
  go_wp2_with fail
  refine (RB.out _).mono ?_
  rintro e w3 ⟨rfl, rfl⟩
  go_wp2
  refine bodyPost_ret (v := .tuple #[.agg #[.int .i64 0, .slice none 0 0], .bool false]) (by simp [results, Try.results20, go_sem, q0, q1]) rfl ⟨rfl, ?_⟩
  exact (K2.out.setCell (by simp) _).setCell (by simp) _
theorem rwith_no (next : Int) (A : Option Addr) (c : Nat) (vs : List (Int × Int)) (r : Int) (w : World) (h : Vs w A c vs) (hl : vs.length ≤ 1000000) (hb : withB next vs r = false) :
    Calls Try.prog 20 #[.agg #[.int .i64 next, .slice A vs.length c], .int .i64 r] w fun e w' => e = .returned (.tuple #[.agg #[.int .i64 0, .slice none 0 0], .bool false]) ∧ Below w.heap.size w w' := by
  unfold withB at hb
  cases h1 : rightB next vs
  · exact rwith_n1 next A c vs r w h hl h1
  · by_cases h2 : vs.length = 12
    · exact rwith_n2 next A c vs r w h hl h1 h2
    · by_cases h3 : next = 16777216
      · exact rwith_n3 next A c vs r w h hl h1 h2 h3
      · rw [h1, decide_eq_false h2, decide_eq_false h3] at hb
        exact rwith_n4 next A c vs r w h hl h1 h2 h3 (by simpa using hb)
set_option maxHeartbeats 2000000 in
set_option maxRecDepth 100000 in
theorem rout_n1f (next : Int) (A : Option Addr) (c : Nat) (vs : List (Int × Int)) (n : Int) (w : World) (h : Vs w A c vs) (hl : vs.length ≤ 1000000) (hf : findP vs n = none) (hr : rightB next vs = false) :
    Calls Try.prog 22 #[.agg #[.int .i64 next, .slice A vs.length c], .int .i64 n] w fun e w' => e = .returned (.tuple #[.agg #[.int .i64 0, .slice none 0 0], .bool false]) ∧ Below w.heap.size w w' := by
  have FD := Lib.hid (fun V (hV : Vs V A c vs) => rfind_none next A c vs n V hV hl hf)
  clear hf
  have RG := Lib.hid (fun V (hV : Vs V A c vs) => rright_any next A c vs V hV hl)
  rw [hr] at RG
  clear hr
  have H := Lib.hid h
  clear h
  go_enter Try.func22, Try.ntmps22
  go_wp2_with fail
  refine (FD.out _ (H.out.below (bon (bda _ _) (bda _ _)))).mono ?_
  rintro e w2 ⟨rfl, hb⟩
  have r1 := row_on (row_on (heap_alloc_new w (.cells #[.int .i64 next, .slice A vs.length c] 34)) (bda _ (.cells #[.int .i64 0, .slice none 0 0] 34))) hb
  have r2 := row_on (heap_alloc_new (w.alloc (.cells #[.int .i64 next, .slice A vs.length c] 34)) (.cells #[.int .i64 0, .slice none 0 0] 34)) hb
  have K2 := Lib.hid (bon (bon (bda w (.cells #[.int .i64 next, .slice A vs.length c] 34)) (bda _ (.cells #[.int .i64 0, .slice none 0 0] 34))) hb)
  have V2 := Lib.hid ((H.out.below (bon (bda w (.cells #[.int .i64 next, .slice A vs.length c] 34)) (bda _ (.cells #[.int .i64 0, .slice none 0 0] 34)))).below hb)
  clear hb
  simp only [World.size_alloc] at r2
  have R1 := Lib.hid r1
  have R2 := Lib.hid r2
  clear r1 r2
  have f0 : w2.cell? ⟨w.heap.size, 0, none⟩ = some (.int .i64 next) := row_c R1.out (i := 0) rfl
  have f1 : w2.cell? ⟨w.heap.size, 1, none⟩ = some (.slice A vs.length c) := row_c R1.out (i := 1) rfl
  have q0 : w2.cell? ⟨w.heap.size + 1, 0, none⟩ = some (.int .i64 0) := row_c R2.out (i := 0) rfl
  have q1 : w2.cell? ⟨w.heap.size + 1, 1, none⟩ = some (.slice none 0 0) := row_c R2.out (i := 1) rfl
  have z0 := frozen_of_row _ _ 0 _ _ R2.out
  have z1 := frozen_of_row _ _ 1 _ _ R2.out
  go_wp2_with fail
  refine (RG.out _ V2.out).mono ?_
  rintro e w3 ⟨rfl, hb⟩
  have K3 := Lib.hid (bon K2.out hb)
  have V3 := Lib.hid (V2.out.below hb)
  have R13 := Lib.hid (row_on R1.out hb)
  have R23 := Lib.hid (row_on R2.out hb)
  clear hb f0 f1 q0 q1 z0 z1
  have f0 : w3.cell? ⟨w.heap.size, 0, none⟩ = some (.int .i64 next) := row_c R13.out (i := 0) rfl
  have f1 : w3.cell? ⟨w.heap.size, 1, none⟩ = some (.slice A vs.length c) := row_c R13.out (i := 1) rfl
  have q0 : w3.cell? ⟨w.heap.size + 1, 0, none⟩ = some (.int .i64 0) := row_c R23.out (i := 0) rfl
  have q1 : w3.cell? ⟨w.heap.size + 1, 1, none⟩ = some (.slice none 0 0) := row_c R23.out (i := 1) rfl
  have z0 := frozen_of_row _ _ 0 _ _ R23.out
  have z1 := frozen_of_row _ _ 1 _ _ R23.out
  go_wp2
  refine bodyPost_ret (v := .tuple #[.agg #[.int .i64 0, .slice none 0 0], .bool false]) (by simp [results, Try.results22, go_sem, q0, q1]) rfl ⟨rfl, ?_⟩
  exact (K3.out.setCell (by simp) _).setCell (by simp) _
set_option maxHeartbeats 2000000 in
set_option maxRecDepth 100000 in
theorem rout_n1t (next : Int) (A : Option Addr) (c : Nat) (vs : List (Int × Int)) (n : Int) (w : World) (h : Vs w A c vs) (hl : vs.length ≤ 1000000) (hf : findP vs n = none) (hr : rightB next vs = true) :
    Calls Try.prog 22 #[.agg #[.int .i64 next, .slice A vs.length c], .int .i64 n] w fun e w' => e = .returned (.tuple #[.agg #[.int .i64 0, .slice none 0 0], .bool false]) ∧ Below w.heap.size w w' := by
  have FD := Lib.hid (fun V (hV : Vs V A c vs) => rfind_none next A c vs n V hV hl hf)
  clear hf
  have RG := Lib.hid (fun V (hV : Vs V A c vs) => rright_any next A c vs V hV hl)
  rw [hr] at RG
  clear hr
  have H := Lib.hid h
  clear h
  go_enter Try.func22, Try.ntmps22
  go_wp2_with fail
  refine (FD.out _ (H.out.below (bon (bda _ _) (bda _ _)))).mono ?_
  rintro e w2 ⟨rfl, hb⟩
  have r1 := row_on (row_on (heap_alloc_new w (.cells #[.int .i64 next, .slice A vs.length c] 34)) (bda _ (.cells #[.int .i64 0, .slice none 0 0] 34))) hb
  have r2 := row_on (heap_alloc_new (w.alloc (.cells #[.int .i64 next, .slice A vs.length c] 34)) (.cells #[.int .i64 0, .slice none 0 0] 34)) hb
  have K2 := Lib.hid (bon (bon (bda w (.cells #[.int .i64 next, .slice A vs.length c] 34)) (bda _ (.cells #[.int .i64 0, .slice none 0 0] 34))) hb)
  have V2 := Lib.hid ((H.out.below (bon (bda w (.cells #[.int .i64 next, .slice A vs.length c] 34)) (bda _ (.cells #[.int .i64 0, .slice none 0 0] 34)))).below hb)
  clear hb
  simp only [World.size_alloc] at r2
  have R1 := Lib.hid r1
  have R2 := Lib.hid r2
  clear r1 r2
  have f0 : w2.cell? ⟨w.heap.size, 0, none⟩ = some (.int .i64 next) := row_c R1.out (i := 0) rfl
  have f1 : w2.cell? ⟨w.heap.size, 1, none⟩ = some (.slice A vs.length c) := row_c R1.out (i := 1) rfl
  have q0 : w2.cell? ⟨w.heap.size + 1, 0, none⟩ = some (.int .i64 0) := row_c R2.out (i := 0) rfl
  have q1 : w2.cell? ⟨w.heap.size + 1, 1, none⟩ = some (.slice none 0 0) := row_c R2.out (i := 1) rfl
  have z0 := frozen_of_row _ _ 0 _ _ R2.out
  have z1 := frozen_of_row _ _ 1 _ _ R2.out
  go_wp2_with fail
  refine (RG.out _ V2.out).mono ?_
  rintro e w3 ⟨rfl, hb⟩
  have K3 := Lib.hid (bon K2.out hb)
  have V3 := Lib.hid (V2.out.below hb)
  have R13 := Lib.hid (row_on R1.out hb)
  have R23 := Lib.hid (row_on R2.out hb)
  clear hb f0 f1 q0 q1 z0 z1
  have f0 : w3.cell? ⟨w.heap.size, 0, none⟩ = some (.int .i64 next) := row_c R13.out (i := 0) rfl
  have f1 : w3.cell? ⟨w.heap.size, 1, none⟩ = some (.slice A vs.length c) := row_c R13.out (i := 1) rfl
  have q0 : w3.cell? ⟨w.heap.size + 1, 0, none⟩ = some (.int .i64 0) := row_c R23.out (i := 0) rfl
  have q1 : w3.cell? ⟨w.heap.size + 1, 1, none⟩ = some (.slice none 0 0) := row_c R23.out (i := 1) rfl
  have z0 := frozen_of_row _ _ 0 _ _ R23.out
  have z1 := frozen_of_row _ _ 1 _ _ R23.out
  go_wp2
  refine bodyPost_ret (v := .tuple #[.agg #[.int .i64 0, .slice none 0 0], .bool false]) (by simp [results, Try.results22, go_sem, q0, q1]) rfl ⟨rfl, ?_⟩
  exact (K3.out.setCell (by simp) _).setCell (by simp) _
set_option maxHeartbeats 2000000 in
set_option maxRecDepth 100000 in
theorem rout_n2 (next : Int) (A : Option Addr) (c : Nat) (vs : List (Int × Int)) (n : Int) (w : World) (h : Vs w A c vs) (hl : vs.length ≤ 1000000) (i : Nat) (hf : findP vs n = some i) (hr : rightB next vs = false) :
    Calls Try.prog 22 #[.agg #[.int .i64 next, .slice A vs.length c], .int .i64 n] w fun e w' => e = .returned (.tuple #[.agg #[.int .i64 0, .slice none 0 0], .bool false]) ∧ Below w.heap.size w w' := by
  have FD := Lib.hid (fun V (hV : Vs V A c vs) => rfind_some next A c vs n i V hV hl hf)
  clear hf
  have RG := Lib.hid (fun V (hV : Vs V A c vs) => rright_any next A c vs V hV hl)
  rw [hr] at RG
  clear hr
  have H := Lib.hid h
  clear h
  go_enter Try.func22, Try.ntmps22
  go_wp2_with fail
  refine (FD.out _ (H.out.below (bon (bda _ _) (bda _ _)))).mono ?_
  rintro e w2 ⟨rfl, hb⟩
  have r1 := row_on (row_on (heap_alloc_new w (.cells #[.int .i64 next, .slice A vs.length c] 34)) (bda _ (.cells #[.int .i64 0, .slice none 0 0] 34))) hb
  have r2 := row_on (heap_alloc_new (w.alloc (.cells #[.int .i64 next, .slice A vs.length c] 34)) (.cells #[.int .i64 0, .slice none 0 0] 34)) hb
  have K2 := Lib.hid (bon (bon (bda w (.cells #[.int .i64 next, .slice A vs.length c] 34)) (bda _ (.cells #[.int .i64 0, .slice none 0 0] 34))) hb)
  have V2 := Lib.hid ((H.out.below (bon (bda w (.cells #[.int .i64 next, .slice A vs.length c] 34)) (bda _ (.cells #[.int .i64 0, .slice none 0 0] 34)))).below hb)
  clear hb
  simp only [World.size_alloc] at r2
  have R1 := Lib.hid r1
  have R2 := Lib.hid r2
  clear r1 r2
  have f0 : w2.cell? ⟨w.heap.size, 0, none⟩ = some (.int .i64 next) := row_c R1.out (i := 0) rfl
  have f1 : w2.cell? ⟨w.heap.size, 1, none⟩ = some (.slice A vs.length c) := row_c R1.out (i := 1) rfl
  have q0 : w2.cell? ⟨w.heap.size + 1, 0, none⟩ = some (.int .i64 0) := row_c R2.out (i := 0) rfl
  have q1 : w2.cell? ⟨w.heap.size + 1, 1, none⟩ = some (.slice none 0 0) := row_c R2.out (i := 1) rfl
  have z0 := frozen_of_row _ _ 0 _ _ R2.out
  have z1 := frozen_of_row _ _ 1 _ _ R2.out
  go_wp2_with fail
  refine (RG.out _ V2.out).mono ?_
  rintro e w3 ⟨rfl, hb⟩
  have K3 := Lib.hid (bon K2.out hb)
  have V3 := Lib.hid (V2.out.below hb)
  have R13 := Lib.hid (row_on R1.out hb)
  have R23 := Lib.hid (row_on R2.out hb)
  clear hb f0 f1 q0 q1 z0 z1
  have f0 : w3.cell? ⟨w.heap.size, 0, none⟩ = some (.int .i64 next) := row_c R13.out (i := 0) rfl
  have f1 : w3.cell? ⟨w.heap.size, 1, none⟩ = some (.slice A vs.length c) := row_c R13.out (i := 1) rfl
  have q0 : w3.cell? ⟨w.heap.size + 1, 0, none⟩ = some (.int .i64 0) := row_c R23.out (i := 0) rfl
  have q1 : w3.cell? ⟨w.heap.size + 1, 1, none⟩ = some (.slice none 0 0) := row_c R23.out (i := 1) rfl
  have z0 := frozen_of_row _ _ 0 _ _ R23.out
  have z1 := frozen_of_row _ _ 1 _ _ R23.out
  go_wp2
  refine bodyPost_ret (v := .tuple #[.agg #[.int .i64 0, .slice none 0 0], .bool false]) (by simp [results, Try.results22, go_sem, q0, q1]) rfl ⟨rfl, ?_⟩
  exact (K3.out.setCell (by simp) _).setCell (by simp) _
set_option maxHeartbeats 2000000 in
set_option maxRecDepth 100000 in
theorem rout_n3 (next : Int) (A : Option Addr) (c : Nat) (vs : List (Int × Int)) (n : Int) (w : World) (h : Vs w A c vs) (hl : vs.length ≤ 1000000) (i : Nat) (hf : findP vs n = some i) (hr : rightB next vs = true) (hz : n = 0) :
    Calls Try.prog 22 #[.agg #[.int .i64 next, .slice A vs.length c], .int .i64 n] w fun e w' => e = .returned (.tuple #[.agg #[.int .i64 0, .slice none 0 0], .bool false]) ∧ Below w.heap.size w w' := by
  have FD := Lib.hid (fun V (hV : Vs V A c vs) => rfind_some next A c vs n i V hV hl hf)
  clear hf
  have RG := Lib.hid (fun V (hV : Vs V A c vs) => rright_any next A c vs V hV hl)
  rw [hr] at RG
  clear hr
  have d0 : (n == 0) = true := by simpa using hz
  clear hz
  have H := Lib.hid h
  clear h
  go_enter Try.func22, Try.ntmps22
  go_wp2_with fail
  refine (FD.out _ (H.out.below (bon (bda _ _) (bda _ _)))).mono ?_
  rintro e w2 ⟨rfl, hb⟩
  have r1 := row_on (row_on (heap_alloc_new w (.cells #[.int .i64 next, .slice A vs.length c] 34)) (bda _ (.cells #[.int .i64 0, .slice none 0 0] 34))) hb
  have r2 := row_on (heap_alloc_new (w.alloc (.cells #[.int .i64 next, .slice A vs.length c] 34)) (.cells #[.int .i64 0, .slice none 0 0] 34)) hb
  have K2 := Lib.hid (bon (bon (bda w (.cells #[.int .i64 next, .slice A vs.length c] 34)) (bda _ (.cells #[.int .i64 0, .slice none 0 0] 34))) hb)
  have V2 := Lib.hid ((H.out.below (bon (bda w (.cells #[.int .i64 next, .slice A vs.length c] 34)) (bda _ (.cells #[.int .i64 0, .slice none 0 0] 34)))).below hb)
  clear hb
  simp only [World.size_alloc] at r2
  have R1 := Lib.hid r1
  have R2 := Lib.hid r2
  clear r1 r2
  have f0 : w2.cell? ⟨w.heap.size, 0, none⟩ = some (.int .i64 next) := row_c R1.out (i := 0) rfl
  have f1 : w2.cell? ⟨w.heap.size, 1, none⟩ = some (.slice A vs.length c) := row_c R1.out (i := 1) rfl
  have q0 : w2.cell? ⟨w.heap.size + 1, 0, none⟩ = some (.int .i64 0) := row_c R2.out (i := 0) rfl
  have q1 : w2.cell? ⟨w.heap.size + 1, 1, none⟩ = some (.slice none 0 0) := row_c R2.out (i := 1) rfl
  have z0 := frozen_of_row _ _ 0 _ _ R2.out
  have z1 := frozen_of_row _ _ 1 _ _ R2.out
  go_wp2_with fail
  refine (RG.out _ V2.out).mono ?_
  rintro e w3 ⟨rfl, hb⟩
  have K3 := Lib.hid (bon K2.out hb)
  have V3 := Lib.hid (V2.out.below hb)
  have R13 := Lib.hid (row_on R1.out hb)
  have R23 := Lib.hid (row_on R2.out hb)
  clear hb f0 f1 q0 q1 z0 z1
  have f0 : w3.cell? ⟨w.heap.size, 0, none⟩ = some (.int .i64 next) := row_c R13.out (i := 0) rfl
  have f1 : w3.cell? ⟨w.heap.size, 1, none⟩ = some (.slice A vs.length c) := row_c R13.out (i := 1) rfl
  have q0 : w3.cell? ⟨w.heap.size + 1, 0, none⟩ = some (.int .i64 0) := row_c R23.out (i := 0) rfl
  have q1 : w3.cell? ⟨w.heap.size + 1, 1, none⟩ = some (.slice none 0 0) := row_c R23.out (i := 1) rfl
  have z0 := frozen_of_row _ _ 0 _ _ R23.out
  have z1 := frozen_of_row _ _ 1 _ _ R23.out
  go_wp2
  refine bodyPost_ret (v := .tuple #[.agg #[.int .i64 0, .slice none 0 0], .bool false]) (by simp [results, Try.results22, go_sem, q0, q1]) rfl ⟨rfl, ?_⟩
  exact (K3.out.setCell (by simp) _).setCell (by simp) _
set_option maxHeartbeats 2000000 in
set_option maxRecDepth 100000 in
theorem rout_n4 (next : Int) (A : Option Addr) (c : Nat) (vs : List (Int × Int)) (n : Int) (w : World) (h : Vs w A c vs) (hl : vs.length ≤ 1000000) (i : Nat) (hf : findP vs n = some i) (hr : rightB next vs = true) (hz : n ≠ 0) (hi : i + 1 = vs.length) :
    Calls Try.prog 22 #[.agg #[.int .i64 next, .slice A vs.length c], .int .i64 n] w fun e w' => e = .returned (.tuple #[.agg #[.int .i64 0, .slice none 0 0], .bool false]) ∧ Below w.heap.size w w' := by
  have FD := Lib.hid (fun V (hV : Vs V A c vs) => rfind_some next A c vs n i V hV hl hf)
  clear hf
  have RG := Lib.hid (fun V (hV : Vs V A c vs) => rright_any next A c vs V hV hl)
  rw [hr] at RG
  clear hr
  have d0 : (n == 0) = false := by simpa using hz
  have d1 : ((i : Int) == (vs.length : Int) - 1) = true := beq_iff_eq.2 (by omega)
  clear hz hi
  have H := Lib.hid h
  clear h
  go_enter Try.func22, Try.ntmps22
  go_wp2_with fail
  refine (FD.out _ (H.out.below (bon (bda _ _) (bda _ _)))).mono ?_
  rintro e w2 ⟨rfl, hb⟩
  have r1 := row_on (row_on (heap_alloc_new w (.cells #[.int .i64 next, .slice A vs.length c] 34)) (bda _ (.cells #[.int .i64 0, .slice none 0 0] 34))) hb
  have r2 := row_on (heap_alloc_new (w.alloc (.cells #[.int .i64 next, .slice A vs.length c] 34)) (.cells #[.int .i64 0, .slice none 0 0] 34)) hb
  have K2 := Lib.hid (bon (bon (bda w (.cells #[.int .i64 next, .slice A vs.length c] 34)) (bda _ (.cells #[.int .i64 0, .slice none 0 0] 34))) hb)
  have V2 := Lib.hid ((H.out.below (bon (bda w (.cells #[.int .i64 next, .slice A vs.length c] 34)) (bda _ (.cells #[.int .i64 0, .slice none 0 0] 34)))).below hb)
  clear hb
  simp only [World.size_alloc] at r2
  have R1 := Lib.hid r1
  have R2 := Lib.hid r2
  clear r1 r2
  have f0 : w2.cell? ⟨w.heap.size, 0, none⟩ = some (.int .i64 next) := row_c R1.out (i := 0) rfl
  have f1 : w2.cell? ⟨w.heap.size, 1, none⟩ = some (.slice A vs.length c) := row_c R1.out (i := 1) rfl
  have q0 : w2.cell? ⟨w.heap.size + 1, 0, none⟩ = some (.int .i64 0) := row_c R2.out (i := 0) rfl
  have q1 : w2.cell? ⟨w.heap.size + 1, 1, none⟩ = some (.slice none 0 0) := row_c R2.out (i := 1) rfl
  have z0 := frozen_of_row _ _ 0 _ _ R2.out
  have z1 := frozen_of_row _ _ 1 _ _ R2.out
  go_wp2_with fail
  refine (RG.out _ V2.out).mono ?_
  rintro e w3 ⟨rfl, hb⟩
  have K3 := Lib.hid (bon K2.out hb)
  have V3 := Lib.hid (V2.out.below hb)
  have R13 := Lib.hid (row_on R1.out hb)
  have R23 := Lib.hid (row_on R2.out hb)
  clear hb f0 f1 q0 q1 z0 z1
  have f0 : w3.cell? ⟨w.heap.size, 0, none⟩ = some (.int .i64 next) := row_c R13.out (i := 0) rfl
  have f1 : w3.cell? ⟨w.heap.size, 1, none⟩ = some (.slice A vs.length c) := row_c R13.out (i := 1) rfl
  have q0 : w3.cell? ⟨w.heap.size + 1, 0, none⟩ = some (.int .i64 0) := row_c R23.out (i := 0) rfl
  have q1 : w3.cell? ⟨w.heap.size + 1, 1, none⟩ = some (.slice none 0 0) := row_c R23.out (i := 1) rfl
  have z0 := frozen_of_row _ _ 0 _ _ R23.out
  have z1 := frozen_of_row _ _ 1 _ _ R23.out
  go_wp2
  refine bodyPost_ret (v := .tuple #[.agg #[.int .i64 0, .slice none 0 0], .bool false]) (by simp [results, Try.results22, go_sem, q0, q1]) rfl ⟨rfl, ?_⟩
  exact (K3.out.setCell (by simp) _).setCell (by simp) _
theorem rout_no (next : Int) (A : Option Addr) (c : Nat) (vs : List (Int × Int)) (n : Int) (w : World) (h : Vs w A c vs) (hl : vs.length ≤ 1000000) (ho : outP next vs n = none) :
    Calls Try.prog 22 #[.agg #[.int .i64 next, .slice A vs.length c], .int .i64 n] w fun e w' => e = .returned (.tuple #[.agg #[.int .i64 0, .slice none 0 0], .bool false]) ∧ Below w.heap.size w w' := by
  unfold outP at ho
  rcases hf : findP vs n with _ | i
  · cases hr : rightB next vs
    · exact rout_n1f next A c vs n w h hl hf hr
    · exact rout_n1t next A c vs n w h hl hf hr
  · rw [hf] at ho
    simp only at ho
    cases hr : rightB next vs
    · exact rout_n2 next A c vs n w h hl i hf hr
    · by_cases hz : n = 0
      · exact rout_n3 next A c vs n w h hl i hf hr hz
      · by_cases hi : i + 1 = vs.length
        · exact rout_n4 next A c vs n w h hl i hf hr hz hi
        · rw [if_pos ⟨hr, hz, hi⟩] at ho; cases ho
end Go.Proofs.Ytlfjopjfolbmiaa
