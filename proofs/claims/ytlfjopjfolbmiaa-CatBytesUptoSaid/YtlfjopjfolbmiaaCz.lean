/-
  Refused: the document's Encode of a list that is not right; Decode of a length that is none.
-/
import Derived.Test.YtlfjopjfolbmiaaCy
namespace Go.Proofs.Ytlfjopjfolbmiaa
open Go.RowKit
set_option maxHeartbeats 1000000 in
set_option maxRecDepth 100000 in
theorem rencode_no (next : Int) (A : Option Addr) (c : Nat) (vs : List (Int × Int)) (w : World) (h : Vs w A c vs) (hl : vs.length ≤ 1000000) (hr : rightB next vs = false) :
    Calls Try.prog 10 #[.agg #[.int .i64 next, .slice A vs.length c]] w fun e w' => e = .returned (.tuple #[.string ⟨#[]⟩, .bool false]) ∧ Below w.heap.size w w' := by
  have RG := Lib.hid (fun V (hV : Vs V A c vs) => rright_any next A c vs V hV hl)
  rw [hr] at RG
  clear hr
  have H := Lib.hid h
  clear h
  have r1 := heap_alloc_new w (.cells #[.int .i64 next, .slice A vs.length c] 34)
  have f0 := row_c r1 (i := 0) rfl
  have f1 := row_c r1 (i := 1) rfl
  clear r1
  go_enter Try.func10, Try.ntmps10
  go_wp2_with fail
  refine (RG.out _ (H.out.below (bda _ _))).mono ?_
  rintro e w2 ⟨rfl, hb⟩
  have K := Lib.hid (bon (bda _ _) hb)
  clear hb f0 f1
  go_wp2
  go_ret2
  exact ⟨rfl, K.out⟩
set_option maxHeartbeats 1000000 in
set_option maxRecDepth 100000 in
theorem rdecode_few (s : List UInt8) (w : World) (h : s.length < 4) :
    Calls Try.prog 13 #[.string ⟨s.toArray⟩] w fun e w' => e = .returned (.tuple #[.agg #[.int .i64 0, .slice none 0 0], .bool false]) ∧ Below w.heap.size w w' := by
  have ss := Lib.hid (str_size s)
  have e1 : decide (s.length < 4) = true := decide_eq_true h
  have e2 : decide ((s.length : Int) < 4) = true := by simp; omega
  clear h
  go_enter Try.func13, Try.ntmps13
  go_wp2
  refine bodyPost_ret (v := .tuple #[.agg #[.int .i64 0, .slice none 0 0], .bool false]) (by simp [results, Try.results13, go_sem]) rfl ⟨rfl, ?_⟩
  exact bda _ _
set_option maxHeartbeats 1000000 in
set_option maxRecDepth 100000 in
theorem decode_rem (s : List UInt8) (w : World) (hm : s.length ≤ 9223372036854775807) (h : 4 ≤ s.length) (h2 : (s.length - 4) % 6 ≠ 0) :
    Calls Try.prog 12 #[.string ⟨s.toArray⟩] w fun e w' => e = .returned (.tuple #[.agg #[.int .i64 0, .slice none 0 0], .int .i64 2]) ∧ Below w.heap.size w w' := by
  have ss := Lib.hid (str_size s)
  have e1 : decide (s.length < 4) = false := decide_eq_false (by omega)
  have e2 : decide ((s.length : Int) < 4) = false := by simp; omega
  have e3 : (((s.length : Int) - 4).tmod 6 != 0) = true := by
    rw [Int.tmod_eq_emod_of_nonneg (by omega)]
    simp only [bne_iff_ne, ne_eq]
    omega
  have e4 : (((s.length : Int) - 4) % 6 != 0) = true := by
    simp only [bne_iff_ne, ne_eq]
    omega
  clear h h2
  go_enter Try.func12, Try.ntmps12
  go_wp2
  refine bodyPost_ret (v := .tuple #[.agg #[.int .i64 0, .slice none 0 0], .int .i64 2]) (by simp [results, Try.results12, go_sem]) rfl ⟨rfl, ?_⟩
  exact bda _ _
set_option maxHeartbeats 1000000 in
set_option maxRecDepth 100000 in
theorem rdecode_rem (s : List UInt8) (w : World) (hm : s.length ≤ 9223372036854775807) (h : 4 ≤ s.length) (h2 : (s.length - 4) % 6 ≠ 0) :
    Calls Try.prog 13 #[.string ⟨s.toArray⟩] w fun e w' => e = .returned (.tuple #[.agg #[.int .i64 0, .slice none 0 0], .bool false]) ∧ Below w.heap.size w w' := by
  have ss := Lib.hid (str_size s)
  have e1 : decide (s.length < 4) = false := decide_eq_false (by omega)
  have e2 : decide ((s.length : Int) < 4) = false := by simp; omega
  have e3 : (((s.length : Int) - 4).tmod 6 != 0) = true := by
    rw [Int.tmod_eq_emod_of_nonneg (by omega)]
    simp only [bne_iff_ne, ne_eq]
    omega
  have e4 : (((s.length : Int) - 4) % 6 != 0) = true := by
    simp only [bne_iff_ne, ne_eq]
    omega
  clear h h2
  go_enter Try.func13, Try.ntmps13
  go_wp2
  refine bodyPost_ret (v := .tuple #[.agg #[.int .i64 0, .slice none 0 0], .bool false]) (by simp [results, Try.results13, go_sem]) rfl ⟨rfl, ?_⟩
  exact bda _ _
end Go.Proofs.Ytlfjopjfolbmiaa
