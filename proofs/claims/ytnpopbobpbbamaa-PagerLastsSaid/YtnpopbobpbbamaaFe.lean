/-
  act, Write, Barrier of a disk with a fuse.
-/
import Derived.Test.YtnpopbobpbbamaaFg
import Derived.Test.YtnpopbobpbbamaaEf
namespace Go.Proofs.Ytnpopbobpbbamaa
open Go.RowKit
set_option linter.unusedSimpArgs false
set_option linter.unusedVariables false
set_option maxHeartbeats 4000000 in
set_option maxRecDepth 100000 in
theorem act_w0 {dn : Bool} {B g gs : Nat} {v : Value} {S : List (List UInt8)} {C : List Wt} (caps : Array Value) (w : World) (h : Df 0 dn B w g gs v S C) :
    Calls Try.prog 55 #[.pointer (some ⟨g, 0, none⟩), .func (.func 56) #[] caps] w fun e w' => e = .returned (.int .i64 7) ∧ w' = w.setCell ⟨g, 3, none⟩ (.bool true) := by
  have f := row_c (i := 2) h.hg rfl
  have f3 := row_c (i := 3) h.hg rfl
  have z3 := frozen_of_row _ _ 3 _ _ h.hg
  clear h
  go_enter Try.func55, Try.ntmps55
  go_wp2
  go_ret
  exact ⟨rfl, rfl⟩
set_option maxHeartbeats 4000000 in
set_option maxRecDepth 100000 in
theorem act_ws {n : Nat} {dn : Bool} {B g gs : Nat} {v : Value} {S : List (List UInt8)} {C : List Wt} (caps : Array Value) (R : World → Prop) (w : World) (h : Df ((n + 1 : Nat) : Int) dn B w g gs v S C) (hn : n ≤ 1000000) (hF : Calls Try.prog 56 caps (w.setCell ⟨g, 2, none⟩ (.int .i64 (n : Int))) fun e w' => e = .returned (.tuple #[]) ∧ R w') :
    Calls Try.prog 55 #[.pointer (some ⟨g, 0, none⟩), .func (.func 56) #[] caps] w fun e w' => e = .returned (.int .i64 0) ∧ R w' := by
  have f := row_c (i := 2) h.hg rfl
  have z2 := frozen_of_row _ _ 2 _ _ h.hg
  have HF := Lib.hid hF
  obtain ⟨m, hm⟩ : ∃ m, n + 1 = m := ⟨_, rfl⟩
  rw [hm] at f
  have d1 : ((m : Int) == 0) = false := by simp; omega
  have d1' : ¬ ((m : Int) = 0) := by omega
  have d2 : decide ((0 : Int) < (m : Int)) = true := decide_eq_true (by omega)
  have d2' : decide (0 < m) = true := decide_eq_true (by omega)
  have wm := Lib.hid (show wrap64 ((m : Int) - 1) = (n : Int) by rw [IntWalk.wrap64_in _ ⟨by omega, by omega⟩]; omega)
  clear h hF hm hn
  go_enter Try.func55, Try.ntmps55
  go_wp2_with fail
  rw [wm.out]
  refine HF.out.mono ?_
  rintro e w' ⟨rfl, hR⟩
  have HR := Lib.hid hR
  clear hR f z2
  go_wp2
  go_ret
  exact ⟨rfl, HR.out⟩
set_option maxHeartbeats 4000000 in
set_option maxRecDepth 100000 in
theorem act_b0 {dn : Bool} {B g gs : Nat} {v : Value} {S : List (List UInt8)} {C : List Wt} (caps : Array Value) (w : World) (h : Df 0 dn B w g gs v S C) :
    Calls Try.prog 55 #[.pointer (some ⟨g, 0, none⟩), .func (.func 57) #[] caps] w fun e w' => e = .returned (.int .i64 7) ∧ w' = w.setCell ⟨g, 3, none⟩ (.bool true) := by
  have f := row_c (i := 2) h.hg rfl
  have f3 := row_c (i := 3) h.hg rfl
  have z3 := frozen_of_row _ _ 3 _ _ h.hg
  clear h
  go_enter Try.func55, Try.ntmps55
  go_wp2
  go_ret
  exact ⟨rfl, rfl⟩
set_option maxHeartbeats 4000000 in
set_option maxRecDepth 100000 in
theorem act_bs {n : Nat} {dn : Bool} {B g gs : Nat} {v : Value} {S : List (List UInt8)} {C : List Wt} (caps : Array Value) (R : World → Prop) (w : World) (h : Df ((n + 1 : Nat) : Int) dn B w g gs v S C) (hn : n ≤ 1000000) (hF : Calls Try.prog 57 caps (w.setCell ⟨g, 2, none⟩ (.int .i64 (n : Int))) fun e w' => e = .returned (.tuple #[]) ∧ R w') :
    Calls Try.prog 55 #[.pointer (some ⟨g, 0, none⟩), .func (.func 57) #[] caps] w fun e w' => e = .returned (.int .i64 0) ∧ R w' := by
  have f := row_c (i := 2) h.hg rfl
  have z2 := frozen_of_row _ _ 2 _ _ h.hg
  have HF := Lib.hid hF
  obtain ⟨m, hm⟩ : ∃ m, n + 1 = m := ⟨_, rfl⟩
  rw [hm] at f
  have d1 : ((m : Int) == 0) = false := by simp; omega
  have d1' : ¬ ((m : Int) = 0) := by omega
  have d2 : decide ((0 : Int) < (m : Int)) = true := decide_eq_true (by omega)
  have d2' : decide (0 < m) = true := decide_eq_true (by omega)
  have wm := Lib.hid (show wrap64 ((m : Int) - 1) = (n : Int) by rw [IntWalk.wrap64_in _ ⟨by omega, by omega⟩]; omega)
  clear h hF hm hn
  go_enter Try.func55, Try.ntmps55
  go_wp2_with fail
  rw [wm.out]
  refine HF.out.mono ?_
  rintro e w' ⟨rfl, hR⟩
  have HR := Lib.hid hR
  clear hR f z2
  go_wp2
  go_ret
  exact ⟨rfl, HR.out⟩
set_option maxHeartbeats 4000000 in
set_option maxRecDepth 100000 in
theorem write_f0 {B g gs : Nat} {v : Value} {S : List (List UInt8)} {C : List Wt} (ix : Nat) (s : ByteArray) (w : World) (h : Df 0 false B w g gs v S C) (hi : ix < S.length) (h64 : s.data.toList.length = 64) (hC : C.length ≤ 1000000) :
    Calls Try.prog 42 #[.pointer (some ⟨g, 0, none⟩), .int .i64 (ix : Int), .string s] w fun e w' => e = .returned (.int .i64 7) ∧ Df 0 true B w' g gs v S C ∧ Ch B g gs w w' := by
  have HI := Lib.hid hi
  have HS := Lib.hid h64
  have HC := Lib.hid hC
  have esz : s.size = 64 := by rw [← h64]; simp
  obtain ⟨ii, hii⟩ : ∃ ii : Int, (ix : Int) = ii := ⟨_, rfl⟩
  rw [hii]
  have HII := Lib.hid hii
  obtain ⟨W, hW⟩ : ∃ W : World, W = ((w.alloc (.cells #[.pointer (some ⟨g, 0, none⟩)] 28)).alloc (.cells #[.int .i64 ii] 3)).alloc (.cells #[.string s] 9) := ⟨_, rfl⟩
  have hbW : Below w.heap.size w W := by rw [hW]; exact bon (bon (bda _ _) (bda _ _)) (bda _ _)
  have D1 := Lib.hid (h.below hbW)
  have R3 := Lib.hid (show W.heap[w.heap.size]? = some (.cells #[.pointer (some ⟨g, 0, none⟩)] 28 (0, 0)) by rw [hW]; exact row_on (row_on (heap_alloc_new w _) (bda _ _)) (bda _ _))
  have R4 := Lib.hid (show W.heap[w.heap.size + 1]? = some (.cells #[.int .i64 ii] 3 (0, 0)) by rw [hW]; have := row_on (heap_alloc_new (w.alloc (.cells #[.pointer (some ⟨g, 0, none⟩)] 28)) (.cells #[.int .i64 ii] 3)) (bda _ (.cells #[.string s] 9)); simpa using this)
  have R5 := Lib.hid (show W.heap[w.heap.size + 1 + 1]? = some (.cells #[.string s] 9 (0, 0)) by rw [hW]; have := heap_alloc_new ((w.alloc (.cells #[.pointer (some ⟨g, 0, none⟩)] 28)).alloc (.cells #[.int .i64 ii] 3)) (.cells #[.string s] 9); simpa using this)
  have fd := row_c (i := 3) D1.out.hg rfl
  have f3 := row_c (i := 0) R3.out rfl
  have f4 := row_c (i := 0) R4.out rfl
  have f5 := row_c (i := 0) R5.out rfl
  have HH := Lib.hid (has_anyF ii true W D1.out (decide_eq_true (by omega)))
  have gN : w.heap.size ≠ g := by have := h.gB; have := h.hB; omega
  have HM := Lib.hid (act_w0 #[.pointer (some ⟨w.heap.size + 1, 0, none⟩), .pointer (some ⟨w.heap.size + 1 + 1, 0, none⟩), .pointer (some ⟨w.heap.size, 0, none⟩)] W D1.out)
  have CW := Lib.hid (Ch.of_below (g := g) (gs := gs) hbW h.hB)
  clear h hi h64 hC hbW hii gN
  go_enter Try.func42, Try.ntmps42
  go_upto_region 1 with (fail)
  rw [← hW]
  clear hW
  go_wp2_with fail
  refine HH.out.mono ?_
  rintro e w1 ⟨rfl, rfl⟩
  go_wp2_with fail
  refine HM.out.mono ?_
  rintro e w2 ⟨rfl, hw⟩
  clear fd f3 f4 f5
  have HW2 := Lib.hid hw
  clear hw
  go_wp2
  go_ret
  have d := D1.out.dead true
  rw [← HW2.out] at d
  exact ⟨rfl, d.1, CW.out.trans d.2⟩
set_option maxHeartbeats 4000000 in
set_option maxRecDepth 100000 in
theorem write_fs {n : Nat} {B g gs : Nat} {v : Value} {S : List (List UInt8)} {C : List Wt} (ix : Nat) (s : ByteArray) (w : World) (h : Df ((n + 1 : Nat) : Int) false B w g gs v S C) (hn : n ≤ 1000000) (hi : ix < S.length) (h64 : s.data.toList.length = 64) (hC : C.length ≤ 1000000) :
    Calls Try.prog 42 #[.pointer (some ⟨g, 0, none⟩), .int .i64 (ix : Int), .string s] w fun e w' => e = .returned (.int .i64 0) ∧ ∃ v', Df (n : Int) false B w' g gs v' S (C ++ [(ix, s.data.toList)]) ∧ Ch B g gs w w' := by
  have HI := Lib.hid hi
  have HS := Lib.hid h64
  have HC := Lib.hid hC
  have esz : s.size = 64 := by rw [← h64]; simp
  obtain ⟨ii, hii⟩ : ∃ ii : Int, (ix : Int) = ii := ⟨_, rfl⟩
  rw [hii]
  have HII := Lib.hid hii
  obtain ⟨W, hW⟩ : ∃ W : World, W = ((w.alloc (.cells #[.pointer (some ⟨g, 0, none⟩)] 28)).alloc (.cells #[.int .i64 ii] 3)).alloc (.cells #[.string s] 9) := ⟨_, rfl⟩
  have hbW : Below w.heap.size w W := by rw [hW]; exact bon (bon (bda _ _) (bda _ _)) (bda _ _)
  have D1 := Lib.hid (h.below hbW)
  have R3 := Lib.hid (show W.heap[w.heap.size]? = some (.cells #[.pointer (some ⟨g, 0, none⟩)] 28 (0, 0)) by rw [hW]; exact row_on (row_on (heap_alloc_new w _) (bda _ _)) (bda _ _))
  have R4 := Lib.hid (show W.heap[w.heap.size + 1]? = some (.cells #[.int .i64 ii] 3 (0, 0)) by rw [hW]; have := row_on (heap_alloc_new (w.alloc (.cells #[.pointer (some ⟨g, 0, none⟩)] 28)) (.cells #[.int .i64 ii] 3)) (bda _ (.cells #[.string s] 9)); simpa using this)
  have R5 := Lib.hid (show W.heap[w.heap.size + 1 + 1]? = some (.cells #[.string s] 9 (0, 0)) by rw [hW]; have := heap_alloc_new ((w.alloc (.cells #[.pointer (some ⟨g, 0, none⟩)] 28)).alloc (.cells #[.int .i64 ii] 3)) (.cells #[.string s] 9); simpa using this)
  have fd := row_c (i := 3) D1.out.hg rfl
  have f3 := row_c (i := 0) R3.out rfl
  have f4 := row_c (i := 0) R4.out rfl
  have f5 := row_c (i := 0) R5.out rfl
  have HH := Lib.hid (has_anyF ii true W D1.out (decide_eq_true (by omega)))
  have gN : w.heap.size ≠ g := by have := h.gB; have := h.hB; omega
  have F1 := D1.out.fuse (n : Int)
  have HM := Lib.hid (act_ws #[.pointer (some ⟨w.heap.size + 1, 0, none⟩), .pointer (some ⟨w.heap.size + 1 + 1, 0, none⟩), .pointer (some ⟨w.heap.size, 0, none⟩)] (fun w' => ∃ v', Df (n : Int) false B w' g gs v' S (C ++ [(ix, s.data.toList)]) ∧ Ch B g gs W w') W D1.out hn ((wr1_anyF ix s (W.setCell ⟨g, 2, none⟩ (.int .i64 (n : Int))) F1.1 hi h64 hC ((Below.heap_setCell _ _ _ _ gN).trans R3.out) (by rw [hii]; exact row_c (i := 0) ((Below.heap_setCell _ _ _ _ (by have := h.gB; have := h.hB; simp; omega)).trans R4.out) rfl) (row_c (i := 0) ((Below.heap_setCell _ _ _ _ (by have := h.gB; have := h.hB; simp; omega)).trans R5.out) rfl)).mono (fun e w' ⟨a, v', b, c⟩ => ⟨a, v', b, F1.2.trans c⟩)))
  have CW := Lib.hid (Ch.of_below (g := g) (gs := gs) hbW h.hB)
  clear h hi h64 hC hbW hii gN F1 hn
  go_enter Try.func42, Try.ntmps42
  go_upto_region 1 with (fail)
  rw [← hW]
  clear hW
  go_wp2_with fail
  refine HH.out.mono ?_
  rintro e w1 ⟨rfl, rfl⟩
  go_wp2_with fail
  refine HM.out.mono ?_
  rintro e w1 ⟨rfl, v', hd, hc⟩
  have HD := Lib.hid hd
  have HCH := Lib.hid hc
  clear hd hc fd f3 f4 f5
  go_wp2
  go_ret
  exact ⟨rfl, v', HD.out, CW.out.trans HCH.out⟩
set_option maxHeartbeats 4000000 in
set_option maxRecDepth 100000 in
theorem barrier_f0 {B g gs : Nat} {v : Value} {S : List (List UInt8)} {C : List Wt} (w : World) (h : Df 0 false B w g gs v S C) (hC : C.length ≤ 1000000) :
    Calls Try.prog 43 #[.pointer (some ⟨g, 0, none⟩)] w fun e w' => e = .returned (.int .i64 7) ∧ Df 0 true B w' g gs v S C ∧ Ch B g gs w w' := by
  obtain ⟨W, hW⟩ : ∃ W : World, W = w.alloc (.cells #[.pointer (some ⟨g, 0, none⟩)] 28) := ⟨_, rfl⟩
  have hbW : Below w.heap.size w W := by rw [hW]; exact bda _ _
  have D1 := Lib.hid (h.below hbW)
  have R3 := Lib.hid (show W.heap[w.heap.size]? = some (.cells #[.pointer (some ⟨g, 0, none⟩)] 28 (0, 0)) by rw [hW]; exact heap_alloc_new w _)
  have fd := row_c (i := 3) D1.out.hg rfl
  have f3 := row_c (i := 0) R3.out rfl
  have CW := Lib.hid (Ch.of_below (g := g) (gs := gs) hbW h.hB)
  have HM := Lib.hid (act_b0 #[.pointer (some ⟨w.heap.size, 0, none⟩)] W D1.out)
  clear h hC hbW
  go_enter Try.func43, Try.ntmps43
  go_upto_region 1 with (fail)
  rw [← hW]
  clear hW
  go_wp2_with fail
  refine HM.out.mono ?_
  rintro e w2 ⟨rfl, hw⟩
  clear fd f3
  have HW2 := Lib.hid hw
  clear hw
  go_wp2
  go_ret
  have d := D1.out.dead true
  rw [← HW2.out] at d
  exact ⟨rfl, d.1, CW.out.trans d.2⟩
set_option maxHeartbeats 4000000 in
set_option maxRecDepth 100000 in
theorem barrier_fs {n : Nat} {B g gs : Nat} {v : Value} {S : List (List UInt8)} {C : List Wt} (w : World) (h : Df ((n + 1 : Nat) : Int) false B w g gs v S C) (hn : n ≤ 1000000) (hC : C.length ≤ 1000000) :
    Calls Try.prog 43 #[.pointer (some ⟨g, 0, none⟩)] w fun e w' => e = .returned (.int .i64 0) ∧ Df (n : Int) false B w' g gs (.slice none 0 0) (flush S C) [] ∧ Ch B g gs w w' := by
  obtain ⟨W, hW⟩ : ∃ W : World, W = w.alloc (.cells #[.pointer (some ⟨g, 0, none⟩)] 28) := ⟨_, rfl⟩
  have hbW : Below w.heap.size w W := by rw [hW]; exact bda _ _
  have D1 := Lib.hid (h.below hbW)
  have R3 := Lib.hid (show W.heap[w.heap.size]? = some (.cells #[.pointer (some ⟨g, 0, none⟩)] 28 (0, 0)) by rw [hW]; exact heap_alloc_new w _)
  have fd := row_c (i := 3) D1.out.hg rfl
  have f3 := row_c (i := 0) R3.out rfl
  have CW := Lib.hid (Ch.of_below (g := g) (gs := gs) hbW h.hB)
  have F1 := D1.out.fuse (n : Int)
  have HM := Lib.hid (act_bs #[.pointer (some ⟨w.heap.size, 0, none⟩)] (fun w' => Df (n : Int) false B w' g gs (.slice none 0 0) (flush S C) [] ∧ Ch B g gs W w') W D1.out hn ((bar1_anyF (W.setCell ⟨g, 2, none⟩ (.int .i64 (n : Int))) F1.1 hC ((Below.heap_setCell _ _ _ _ (by have := h.gB; have := h.hB; simp; omega)).trans R3.out) (by have := h.sB; have := h.hB; omega)).mono (fun e w' ⟨a, b, c⟩ => ⟨a, b, F1.2.trans (c.narrow F1.1.hB)⟩)))
  clear h hC hbW F1 hn
  go_enter Try.func43, Try.ntmps43
  go_upto_region 1 with (fail)
  rw [← hW]
  clear hW
  go_wp2_with fail
  refine HM.out.mono ?_
  rintro e w1 ⟨rfl, hd, hc⟩
  have HD := Lib.hid hd
  have HCH := Lib.hid hc
  clear hd hc fd f3
  go_wp2
  go_ret
  exact ⟨rfl, HD.out, CW.out.trans HCH.out⟩
end Go.Proofs.Ytnpopbobpbbamaa
