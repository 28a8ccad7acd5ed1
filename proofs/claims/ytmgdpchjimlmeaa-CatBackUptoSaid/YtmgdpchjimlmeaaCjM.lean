/-
  The law's own 'examples'.
-/
import Derived.Test.YtmgdpchjimlmeaaCaM
import Derived.Laws.StructEq
namespace Go.Proofs.Ytmgdpchjimlmeaa.Cat
open Go.RowKit
theorem enc_one (w : World) : Calls Try.prog 8 #[.agg #[.int .i64 1, .slice none 0 0]] w fun e w' => e = .returned (.tuple #[.string ⟨#[0, 0, 0, 1]⟩, .int .i64 0]) ∧ Below w.heap.size w w' := by
  have h := encode_yes 1 none 0 [] w (Vs.nil_ _ _) (by decide)
  have e : encL 1 [] = [0, 0, 0, 1] := by decide
  rw [e] at h
  exact h
theorem with_ex (w : World) : Calls Try.prog 16 #[.agg #[.int .i64 5, .slice none 0 0], .int .i64 9] w fun e w' => ∃ A' c', e = .returned (.tuple #[.agg #[.int .i64 6, .slice A' 1 c'], .bool true]) ∧ Vs w' A' c' [(5, 9)] ∧ Below w.heap.size w w' :=
  (with_yes 5 none 0 [] 9 w (Vs.nil_ _ _) (by decide)).mono fun _ _ ⟨A', c', h1, h2, h3, _⟩ => ⟨A', c', h1, h2, h3⟩
theorem find_ex (A : Option Addr) (c : Nat) (w : World) (h : Vs w A c [(5, 9)]) : Calls Try.prog 17 #[.agg #[.int .i64 6, .slice A 1 c], .int .i64 0] w fun e w' => e = .returned (.tuple #[.int .i64 0, .bool true]) ∧ Below w.heap.size w w' :=
  find_some 6 A c [(5, 9)] 0 0 w h (by simp) (by decide)
theorem decode_ex (w : World) : Calls Try.prog 9 #[.string ⟨#[]⟩] w fun e w' => e = .returned (.tuple #[.agg #[.int .i64 0, .slice none 0 0], .int .i64 2]) ∧ Below w.heap.size w w' :=
  decode_few [] w (by simp)
set_option maxHeartbeats 2000000 in
set_option maxRecDepth 100000 in
theorem examples_any (w : World) : Calls Try.prog 4 #[] w fun e w' => e = .returned (.bool true) ∧ Below w.heap.size w w' := by
  go_enter Try.func4, Try.ntmps4
  go_wp2_with fail
  refine (enc_one _).mono ?_
  rintro e w1 ⟨rfl, hb⟩
  have K1 := Lib.hid hb
  clear hb
  go_wp2_with fail
  refine (with_ex _).mono ?_
  rintro e w2 ⟨A, c, rfl, hv, hb⟩
  have K2 := Lib.hid (bon K1.out hb)
  have V2 := Lib.hid hv
  clear hb hv
  go_wp2_with fail
  refine (find_ex A c _ (V2.out.below (bda _ _))).mono ?_
  rintro e w3 ⟨rfl, hb⟩
  have K3 := Lib.hid (bon K2.out (bon (bda w2 _) hb))
  have V3 := Lib.hid ((V2.out.below (bda w2 _)).below hb)
  have R3 := Lib.hid (row_on (heap_alloc_new w2 (.cells #[.int .i64 6, .slice A 1 c] 24)) hb)
  clear hb
  go_wp2_with fail
  refine (decode_ex _).mono ?_
  rintro e w4 ⟨rfl, hb⟩
  have R4 := Lib.hid (row_on (row_on R3.out hb) (bda w4 (.cells #[.int .i64 0, .slice none 0 0] 24)))
  have K4 := Lib.hid (bon K3.out (bon hb (bda w4 (.cells #[.int .i64 0, .slice none 0 0] 24))))
  have V4 := Lib.hid ((V3.out.below hb).below (bda w4 (.cells #[.int .i64 0, .slice none 0 0] 24)))
  clear hb
  obtain ⟨b, off, hA, hbl, hc⟩ := V4.out.2 (by simp)
  have c0 := (hc 0 (by simp)).1
  have c1 := (hc 0 (by simp)).2
  simp only [at2, List.getElem?_cons_zero, Option.getD_some, Nat.zero_mul, Nat.add_zero] at c0 c1
  have f0 := row_c R4.out (i := 0) rfl
  have f1 := row_c R4.out (i := 1) rfl
  clear hc
  subst hA
  go_wp2
  go_ret
  exact ⟨rfl, K4.out⟩
end Go.Proofs.Ytmgdpchjimlmeaa.Cat
