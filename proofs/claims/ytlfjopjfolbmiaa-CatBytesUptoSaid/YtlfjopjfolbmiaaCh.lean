/-
  cat.With refused; cat.Decode of too few bytes.
-/
import Derived.Test.YtlfjopjfolbmiaaCg
namespace Go.Proofs.Ytlfjopjfolbmiaa
open Go.RowKit
def BOX (w : World) (next : Int) (A : Option Addr) (n c : Nat) : World := (w.alloc (.cells #[.int .i64 next, .slice A n c] 24)).alloc (.cells #[.int .i64 0, .slice none 0 0] 24)
set_option maxHeartbeats 2000000 in
set_option maxRecDepth 100000 in
theorem with_n1 (next : Int) (A : Option Addr) (c : Nat) (vs : List (Int × Int)) (r : Int) (w : World) (h : Vs w A c vs) (hl : vs.length ≤ 1000000) (hb : rightB next vs = false) :
    Calls Try.prog 19 #[.agg #[.int .i64 next, .slice A vs.length c], .int .i64 r] w fun e w' => e = .returned (.tuple #[.agg #[.int .i64 0, .slice none 0 0], .bool false]) ∧ Below w.heap.size w w' := by
  have RG := Lib.hid (fun V (hV : Vs V A c vs) => right_any next A c vs V hV hl)
  rw [hb] at RG
  clear hb
  have H := Lib.hid h
  clear h
  go_enter Try.func19, Try.ntmps19
  go_wp2_with fail
  refine (RG.out _ (H.out.below (bon (bda _ _) (bda _ _)))).mono ?_
  rintro e w2 ⟨rfl, hb⟩
  have R1 := Lib.hid (row_on (row_on (heap_alloc_new w (.cells #[.int .i64 next, .slice A vs.length c] 24)) (bda _ (.cells #[.int .i64 0, .slice none 0 0] 24))) hb)
  have r2 := row_on (heap_alloc_new (w.alloc (.cells #[.int .i64 next, .slice A vs.length c] 24)) (.cells #[.int .i64 0, .slice none 0 0] 24)) hb
  have K2 := Lib.hid (bon (bon (bda w (.cells #[.int .i64 next, .slice A vs.length c] 24)) (bda _ (.cells #[.int .i64 0, .slice none 0 0] 24))) hb)
  clear hb
  simp only [World.size_alloc] at r2
  have R2 := Lib.hid r2
  clear r2
  have f0 : w2.cell? ⟨w.heap.size, 0, none⟩ = some (.int .i64 next) := row_c R1.out (i := 0) rfl
  have f1 : w2.cell? ⟨w.heap.size, 1, none⟩ = some (.slice A vs.length c) := row_c R1.out (i := 1) rfl
  have q0 : w2.cell? ⟨w.heap.size + 1, 0, none⟩ = some (.int .i64 0) := row_c R2.out (i := 0) rfl
  have q1 : w2.cell? ⟨w.heap.size + 1, 1, none⟩ = some (.slice none 0 0) := row_c R2.out (i := 1) rfl
  have z0 := frozen_of_row _ _ 0 _ _ R2.out
  have z1 := frozen_of_row _ _ 1 _ _ R2.out
  go_wp2
  refine bodyPost_ret (v := .tuple #[.agg #[.int .i64 0, .slice none 0 0], .bool false]) (by simp [results, Try.results19, go_sem, q0, q1]) rfl ⟨rfl, ?_⟩
  exact (K2.out.setCell (by simp) _).setCell (by simp) _
set_option maxHeartbeats 2000000 in
set_option maxRecDepth 100000 in
theorem with_n2 (next : Int) (A : Option Addr) (c : Nat) (vs : List (Int × Int)) (r : Int) (w : World) (h : Vs w A c vs) (hl : vs.length ≤ 1000000) (hb : rightB next vs = true) (hd : vs.length = 12) :
    Calls Try.prog 19 #[.agg #[.int .i64 next, .slice A vs.length c], .int .i64 r] w fun e w' => e = .returned (.tuple #[.agg #[.int .i64 0, .slice none 0 0], .bool false]) ∧ Below w.heap.size w w' := by
  have RG := Lib.hid (fun V (hV : Vs V A c vs) => right_any next A c vs V hV hl)
  rw [hb] at RG
  have e1 : ((vs.length : Int) == 12) = true := by simp; omega
  clear hd
  clear hb
  have H := Lib.hid h
  clear h
  go_enter Try.func19, Try.ntmps19
  go_wp2_with fail
  refine (RG.out _ (H.out.below (bon (bda _ _) (bda _ _)))).mono ?_
  rintro e w2 ⟨rfl, hb⟩
  have R1 := Lib.hid (row_on (row_on (heap_alloc_new w (.cells #[.int .i64 next, .slice A vs.length c] 24)) (bda _ (.cells #[.int .i64 0, .slice none 0 0] 24))) hb)
  have r2 := row_on (heap_alloc_new (w.alloc (.cells #[.int .i64 next, .slice A vs.length c] 24)) (.cells #[.int .i64 0, .slice none 0 0] 24)) hb
  have K2 := Lib.hid (bon (bon (bda w (.cells #[.int .i64 next, .slice A vs.length c] 24)) (bda _ (.cells #[.int .i64 0, .slice none 0 0] 24))) hb)
  clear hb
  simp only [World.size_alloc] at r2
  have R2 := Lib.hid r2
  clear r2
  have f0 : w2.cell? ⟨w.heap.size, 0, none⟩ = some (.int .i64 next) := row_c R1.out (i := 0) rfl
  have f1 : w2.cell? ⟨w.heap.size, 1, none⟩ = some (.slice A vs.length c) := row_c R1.out (i := 1) rfl
  have q0 : w2.cell? ⟨w.heap.size + 1, 0, none⟩ = some (.int .i64 0) := row_c R2.out (i := 0) rfl
  have q1 : w2.cell? ⟨w.heap.size + 1, 1, none⟩ = some (.slice none 0 0) := row_c R2.out (i := 1) rfl
  have z0 := frozen_of_row _ _ 0 _ _ R2.out
  have z1 := frozen_of_row _ _ 1 _ _ R2.out
  go_wp2
  refine bodyPost_ret (v := .tuple #[.agg #[.int .i64 0, .slice none 0 0], .bool false]) (by simp [results, Try.results19, go_sem, q0, q1]) rfl ⟨rfl, ?_⟩
  exact (K2.out.setCell (by simp) _).setCell (by simp) _
set_option maxHeartbeats 2000000 in
set_option maxRecDepth 100000 in
theorem with_n3 (next : Int) (A : Option Addr) (c : Nat) (vs : List (Int × Int)) (r : Int) (w : World) (h : Vs w A c vs) (hl : vs.length ≤ 1000000) (hb : rightB next vs = true) (hc : vs.length ≠ 12) (hd : next = 16777216) :
    Calls Try.prog 19 #[.agg #[.int .i64 next, .slice A vs.length c], .int .i64 r] w fun e w' => e = .returned (.tuple #[.agg #[.int .i64 0, .slice none 0 0], .bool false]) ∧ Below w.heap.size w w' := by
  have RG := Lib.hid (fun V (hV : Vs V A c vs) => right_any next A c vs V hV hl)
  rw [hb] at RG
  have e1 : ((vs.length : Int) == 12) = false := by simp; omega
  have e2 : (next == 16777216) = true := by simpa using hd
  clear hc hd
  clear hb
  have H := Lib.hid h
  clear h
  go_enter Try.func19, Try.ntmps19
  go_wp2_with fail
  refine (RG.out _ (H.out.below (bon (bda _ _) (bda _ _)))).mono ?_
  rintro e w2 ⟨rfl, hb⟩
  have R1 := Lib.hid (row_on (row_on (heap_alloc_new w (.cells #[.int .i64 next, .slice A vs.length c] 24)) (bda _ (.cells #[.int .i64 0, .slice none 0 0] 24))) hb)
  have r2 := row_on (heap_alloc_new (w.alloc (.cells #[.int .i64 next, .slice A vs.length c] 24)) (.cells #[.int .i64 0, .slice none 0 0] 24)) hb
  have K2 := Lib.hid (bon (bon (bda w (.cells #[.int .i64 next, .slice A vs.length c] 24)) (bda _ (.cells #[.int .i64 0, .slice none 0 0] 24))) hb)
  clear hb
  simp only [World.size_alloc] at r2
  have R2 := Lib.hid r2
  clear r2
  have f0 : w2.cell? ⟨w.heap.size, 0, none⟩ = some (.int .i64 next) := row_c R1.out (i := 0) rfl
  have f1 : w2.cell? ⟨w.heap.size, 1, none⟩ = some (.slice A vs.length c) := row_c R1.out (i := 1) rfl
  have q0 : w2.cell? ⟨w.heap.size + 1, 0, none⟩ = some (.int .i64 0) := row_c R2.out (i := 0) rfl
  have q1 : w2.cell? ⟨w.heap.size + 1, 1, none⟩ = some (.slice none 0 0) := row_c R2.out (i := 1) rfl
  have z0 := frozen_of_row _ _ 0 _ _ R2.out
  have z1 := frozen_of_row _ _ 1 _ _ R2.out
  go_wp2
  refine bodyPost_ret (v := .tuple #[.agg #[.int .i64 0, .slice none 0 0], .bool false]) (by simp [results, Try.results19, go_sem, q0, q1]) rfl ⟨rfl, ?_⟩
  exact (K2.out.setCell (by simp) _).setCell (by simp) _
set_option maxHeartbeats 2000000 in
set_option maxRecDepth 100000 in
theorem with_n4 (next : Int) (A : Option Addr) (c : Nat) (vs : List (Int × Int)) (r : Int) (w : World) (h : Vs w A c vs) (hl : vs.length ≤ 1000000) (hb : rightB next vs = true) (hc : vs.length ≠ 12) (hd : next ≠ 16777216) (he : rootB r = false) :
    Calls Try.prog 19 #[.agg #[.int .i64 next, .slice A vs.length c], .int .i64 r] w fun e w' => e = .returned (.tuple #[.agg #[.int .i64 0, .slice none 0 0], .bool false]) ∧ Below w.heap.size w w' := by
  have RG := Lib.hid (fun V (hV : Vs V A c vs) => right_any next A c vs V hV hl)
  rw [hb] at RG
  have RB := Lib.hid (fun V => rooted_any r V)
  rw [he] at RB
  have e1 : ((vs.length : Int) == 12) = false := by simp; omega
  have e2 : (next == 16777216) = false := by simpa using hd
  clear hc hd he
  clear hb
  have H := Lib.hid h
  clear h
  go_enter Try.func19, Try.ntmps19
  go_wp2_with fail
  refine (RG.out _ (H.out.below (bon (bda _ _) (bda _ _)))).mono ?_
  rintro e w2 ⟨rfl, hb⟩
  have R1 := Lib.hid (row_on (row_on (heap_alloc_new w (.cells #[.int .i64 next, .slice A vs.length c] 24)) (bda _ (.cells #[.int .i64 0, .slice none 0 0] 24))) hb)
  have r2 := row_on (heap_alloc_new (w.alloc (.cells #[.int .i64 next, .slice A vs.length c] 24)) (.cells #[.int .i64 0, .slice none 0 0] 24)) hb
  have K2 := Lib.hid (bon (bon (bda w (.cells #[.int .i64 next, .slice A vs.length c] 24)) (bda _ (.cells #[.int .i64 0, .slice none 0 0] 24))) hb)
  clear hb
  simp only [World.size_alloc] at r2
  have R2 := Lib.hid r2
  clear r2
  have f0 : w2.cell? ⟨w.heap.size, 0, none⟩ = some (.int .i64 next) := row_c R1.out (i := 0) rfl
  have f1 : w2.cell? ⟨w.heap.size, 1, none⟩ = some (.slice A vs.length c) := row_c R1.out (i := 1) rfl
  have q0 : w2.cell? ⟨w.heap.size + 1, 0, none⟩ = some (.int .i64 0) := row_c R2.out (i := 0) rfl
  have q1 : w2.cell? ⟨w.heap.size + 1, 1, none⟩ = some (.slice none 0 0) := row_c R2.out (i := 1) rfl
  have z0 := frozen_of_row _ _ 0 _ _ R2.out
  have z1 := frozen_of_row _ _ 1 _ _ R2.out
  go_wp2_with fail
  refine (RB.out _).mono ?_
  rintro e w3 ⟨rfl, rfl⟩
  go_wp2
  refine bodyPost_ret (v := .tuple #[.agg #[.int .i64 0, .slice none 0 0], .bool false]) (by simp [results, Try.results19, go_sem, q0, q1]) rfl ⟨rfl, ?_⟩
  exact (K2.out.setCell (by simp) _).setCell (by simp) _
theorem with_no (next : Int) (A : Option Addr) (c : Nat) (vs : List (Int × Int)) (r : Int) (w : World) (h : Vs w A c vs) (hl : vs.length ≤ 1000000) (hb : withB next vs r = false) :
    Calls Try.prog 19 #[.agg #[.int .i64 next, .slice A vs.length c], .int .i64 r] w fun e w' => e = .returned (.tuple #[.agg #[.int .i64 0, .slice none 0 0], .bool false]) ∧ Below w.heap.size w w' := by
  unfold withB at hb
  cases h1 : rightB next vs
  · exact with_n1 next A c vs r w h hl h1
  · by_cases h2 : vs.length = 12
    · exact with_n2 next A c vs r w h hl h1 h2
    · by_cases h3 : next = 16777216
      · exact with_n3 next A c vs r w h hl h1 h2 h3
      · rw [h1, decide_eq_false h2, decide_eq_false h3] at hb
        exact with_n4 next A c vs r w h hl h1 h2 h3 (by simpa using hb)
set_option maxHeartbeats 2000000 in
set_option maxRecDepth 100000 in
theorem decode_few (s : List UInt8) (w : World) (h : s.length < 4) :
    Calls Try.prog 12 #[.string ⟨s.toArray⟩] w fun e w' => e = .returned (.tuple #[.agg #[.int .i64 0, .slice none 0 0], .int .i64 2]) ∧ Below w.heap.size w w' := by
  have e1 : decide (s.length < 4) = true := decide_eq_true h
  have e2 : decide ((s.length : Int) < 4) = true := by simp; omega
  clear h
  go_enter Try.func12, Try.ntmps12
  go_wp2
  refine bodyPost_ret (v := .tuple #[.agg #[.int .i64 0, .slice none 0 0], .int .i64 2]) (by simp [results, Try.results12, go_sem]) rfl ⟨rfl, ?_⟩
  exact bda _ _
end Go.Proofs.Ytlfjopjfolbmiaa
