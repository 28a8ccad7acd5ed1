/-
  disk.Write.
-/
import Derived.Test.YtmgdpchjimlmeaaEe
namespace Go.Proofs.Ytmgdpchjimlmeaa
open Go.RowKit
set_option linter.unusedSimpArgs false
set_option linter.unusedVariables false
set_option maxHeartbeats 4000000 in
set_option maxRecDepth 100000 in
theorem write_any {B g gs : Nat} {v : Value} {S : List (List UInt8)} {C : List Wt} (ix : Nat) (s : ByteArray) (w : World) (h : Dk B w g gs v S C) (hi : ix < S.length) (h64 : s.data.toList.length = 64) (hC : C.length ≤ 1000000) :
    Calls Try.prog 48 #[.pointer (some ⟨g, 0, none⟩), .int .i64 (ix : Int), .string s] w fun e w' => e = .returned (.int .i64 0) ∧ ∃ v', Dk B w' g gs v' S (C ++ [(ix, s.data.toList)]) ∧ Ch B g gs w w' := by
  have HI := Lib.hid hi
  have HS := Lib.hid h64
  have HC := Lib.hid hC
  have esz : s.size = 64 := by rw [← h64]; simp
  obtain ⟨ii, hii⟩ : ∃ ii : Int, (ix : Int) = ii := ⟨_, rfl⟩
  rw [hii]
  have HII := Lib.hid hii
  obtain ⟨W, hW⟩ : ∃ W : World, W = ((w.alloc (.cells #[.pointer (some ⟨g, 0, none⟩)] 27)).alloc (.cells #[.int .i64 ii] 3)).alloc (.cells #[.string s] 9) := ⟨_, rfl⟩
  have hbW : Below w.heap.size w W := by rw [hW]; exact bon (bon (bda _ _) (bda _ _)) (bda _ _)
  have D1 := Lib.hid (h.below hbW)
  have R3 := Lib.hid (show W.heap[w.heap.size]? = some (.cells #[.pointer (some ⟨g, 0, none⟩)] 27 (0, 0)) by rw [hW]; exact row_on (row_on (heap_alloc_new w _) (bda _ _)) (bda _ _))
  have R4 := Lib.hid (show W.heap[w.heap.size + 1]? = some (.cells #[.int .i64 ii] 3 (0, 0)) by rw [hW]; have := row_on (heap_alloc_new (w.alloc (.cells #[.pointer (some ⟨g, 0, none⟩)] 27)) (.cells #[.int .i64 ii] 3)) (bda _ (.cells #[.string s] 9)); simpa using this)
  have R5 := Lib.hid (show W.heap[w.heap.size + 1 + 1]? = some (.cells #[.string s] 9 (0, 0)) by rw [hW]; have := heap_alloc_new ((w.alloc (.cells #[.pointer (some ⟨g, 0, none⟩)] 27)).alloc (.cells #[.int .i64 ii] 3)) (.cells #[.string s] 9); simpa using this)
  have BW := Lib.hid hbW
  have HB := Lib.hid h.hB
  have fd := row_c (i := 3) D1.out.hg rfl
  have f3 := row_c (i := 0) R3.out rfl
  have f4 := row_c (i := 0) R4.out rfl
  have f5 := row_c (i := 0) R5.out rfl
  have HH := Lib.hid (has_any ii true W D1.out (decide_eq_true (by omega)))
  have HM := Lib.hid (act_w (C := C) #[.pointer (some ⟨w.heap.size + 1, 0, none⟩), .pointer (some ⟨w.heap.size + 1 + 1, 0, none⟩), .pointer (some ⟨w.heap.size, 0, none⟩)] (fun w' => ∃ v', Dk B w' g gs v' S (C ++ [(ix, s.data.toList)]) ∧ Ch B g gs W w') W D1.out (wr1_any ix s W D1.out hi h64 hC R3.out (by rw [hii]; exact f4) f5))
  have CW := Lib.hid (Ch.of_below (g := g) (gs := gs) hbW h.hB)
  clear h hi h64 hC hbW hii
  go_enter Try.func48, Try.ntmps48
  go_upto_region 1 with (fail)
  rw [← hW]
  clear hW
  go_wp2_with fail
  refine HH.out.mono ?_
  rintro e w1 ⟨rfl, rfl⟩
  go_wp2_with fail
  refine HM.out.mono ?_
  rintro e w1 ⟨rfl, v', hd, hc⟩
  have HD := Lib.hid hd
  have HCH := Lib.hid hc
  clear hd hc fd f3 f4 f5
  go_wp2
  go_ret
  exact ⟨rfl, v', HD.out, CW.out.trans HCH.out⟩
set_option maxHeartbeats 4000000 in
set_option maxRecDepth 100000 in
theorem write_no {B g gs : Nat} {v : Value} {S : List (List UInt8)} {C : List Wt} (ii : Int) (s : ByteArray) (w : World) (h : Dk B w g gs v S C) (hi : ¬ (0 ≤ ii ∧ ii < (S.length : Int))) :
    Calls Try.prog 48 #[.pointer (some ⟨g, 0, none⟩), .int .i64 ii, .string s] w fun e w' => e = .returned (.int .i64 1) ∧ Below w.heap.size w w' := by
  obtain ⟨W, hW⟩ : ∃ W : World, W = ((w.alloc (.cells #[.pointer (some ⟨g, 0, none⟩)] 27)).alloc (.cells #[.int .i64 ii] 3)).alloc (.cells #[.string s] 9) := ⟨_, rfl⟩
  have hbW : Below w.heap.size w W := by rw [hW]; exact bon (bon (bda _ _) (bda _ _)) (bda _ _)
  have D1 := Lib.hid (h.below hbW)
  have R3 := Lib.hid (show W.heap[w.heap.size]? = some (.cells #[.pointer (some ⟨g, 0, none⟩)] 27 (0, 0)) by rw [hW]; exact row_on (row_on (heap_alloc_new w _) (bda _ _)) (bda _ _))
  have R4 := Lib.hid (show W.heap[w.heap.size + 1]? = some (.cells #[.int .i64 ii] 3 (0, 0)) by rw [hW]; have := row_on (heap_alloc_new (w.alloc (.cells #[.pointer (some ⟨g, 0, none⟩)] 27)) (.cells #[.int .i64 ii] 3)) (bda _ (.cells #[.string s] 9)); simpa using this)
  have R5 := Lib.hid (show W.heap[w.heap.size + 1 + 1]? = some (.cells #[.string s] 9 (0, 0)) by rw [hW]; have := heap_alloc_new ((w.alloc (.cells #[.pointer (some ⟨g, 0, none⟩)] 27)).alloc (.cells #[.int .i64 ii] 3)) (.cells #[.string s] 9); simpa using this)
  have BW := Lib.hid hbW
  have HB := Lib.hid h.hB
  have fd := row_c (i := 3) D1.out.hg rfl
  have f3 := row_c (i := 0) R3.out rfl
  have f4 := row_c (i := 0) R4.out rfl
  have f5 := row_c (i := 0) R5.out rfl
  have HH := Lib.hid (has_any ii false W D1.out (decide_eq_false hi))
  clear h hi hbW
  go_enter Try.func48, Try.ntmps48
  go_upto_region 1 with (fail)
  rw [← hW]
  clear hW
  go_wp2_with fail
  refine HH.out.mono ?_
  rintro e w1 ⟨rfl, rfl⟩
  go_wp2
  go_ret
  exact ⟨rfl, BW.out⟩
end Go.Proofs.Ytmgdpchjimlmeaa
