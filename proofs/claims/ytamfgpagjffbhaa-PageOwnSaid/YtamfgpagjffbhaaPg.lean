/-
  The law's own 'examples': the chapter's examples are so.
-/
import Derived.Test.YtamfgpagjffbhaaPf
namespace Go.Proofs.Ytamfgpagjffbhaa
open Go.RowKit
def helloL : List UInt8 := [104, 101, 108, 108, 111]
def zeroL : List UInt8 := List.replicate 128 0
def nineL : List UInt8 := [49, 50, 51, 52, 53, 54, 55, 56, 57]
theorem open_hello (w : World) : Calls Try.prog 9 #[.string ⟨(sealL 3 helloL).toArray⟩] w fun e w' => e = .returned (.tuple #[.int .i64 3, .string ⟨#[104, 101, 108, 108, 111]⟩, .int .i64 0]) ∧ Below w.heap.size w w' := by
  have h := open_any (sealL 3 helloL) w
  obtain ⟨h1, h2, h3⟩ := open_seal (k := 3) (t := helloL) (by omega) (by omega) (by decide)
  rw [h1, h2, h3] at h
  exact h
theorem open_none (w : World) : Calls Try.prog 9 #[.string ⟨#[]⟩] w fun e w' => e = .returned (.tuple #[.int .i64 0, .string ⟨#[]⟩, .int .i64 2]) ∧ w = w' :=
  open_short [] w (by simp)
theorem open_zero (w : World) : Calls Try.prog 9 #[.string ⟨zeroL.toArray⟩] w fun e w' => e = .returned (.tuple #[.int .i64 0, .string ⟨#[]⟩, .int .i64 10]) ∧ Below w.heap.size w w' :=
  open_sum zeroL w (by simp [zeroL]) (by decide +kernel)
theorem sum_nine (w : World) : Calls Try.prog 10 #[.string ⟨#[49, 50, 51, 52, 53, 54, 55, 56, 57]⟩] w fun e w' => e = .returned (.int .u32 3421780262) ∧ w = w' := by
  have h := sum_any nineL w (by decide)
  have e : sumL nineL = 3421780262 := by decide +kernel
  rw [e] at h
  exact h
theorem seal_hello (w : World) : Calls Try.prog 8 #[.int .i64 3, .string ⟨#[104, 101, 108, 108, 111]⟩] w fun e w' => e = .returned (.tuple #[.string ⟨(sealL 3 helloL).toArray⟩, .int .i64 0]) ∧ Below w.heap.size w w' :=
  seal_yes 3 helloL w (by omega) (by omega) (by decide)
set_option maxHeartbeats 2000000 in
set_option maxRecDepth 100000 in
theorem examples_any (w : World) : Calls Try.prog 4 #[] w fun e w' => e = .returned (.bool true) ∧ Below w.heap.size w w' := by
  have hsl : (sealL 3 helloL).length = 128 := seal_len (by decide)
  have OH := Lib.hid open_hello
  have SH := Lib.hid seal_hello
  obtain ⟨s, hs⟩ : ∃ s, sealL 3 helloL = s := ⟨_, rfl⟩
  rw [hs] at hsl OH SH
  clear hs
  have ss := Lib.hid (str_size s)
  have dl : ((s.length : Int) == 128) = true := by simp; omega
  have l0 : s.length ≤ 128 := by omega
  clear hsl
  have hmk : ∀ w : World, (Instr.makeSlice 34 (.int .i64 128) (.int .i64 128)).run Try.prog w = .ok (.slice (some ⟨w.heap.size, 0, none⟩) 128 128) (w.alloc (.cells (madeCells #[.int .u8 0] 128) 5)) := run_make_row' (P := Try.prog) 34 5 (.int .u8 0) 1 Try.underlying34 elem8_info rfl .i64 .i64 128 (by omega) (by omega)
  go_enter Try.func4, Try.ntmps4
  go_wp2_with fail
  refine (SH.out _).mono ?_
  rintro e w1 ⟨rfl, hb⟩
  have K1 := Lib.hid hb
  clear hb
  go_wp2_with fail
  refine (OH.out _).mono ?_
  rintro e w2 ⟨rfl, hb⟩
  have K2 := Lib.hid (K1.out.trans (hb.mono K1.out.size))
  clear hb
  go_wp2_with fail
  refine (open_none _).mono ?_
  rintro e w3 ⟨rfl, rfl⟩
  have hcz := made_conv w2 128 zeroL rfl
  go_wp2_with fail
  refine (open_zero _).mono ?_
  rintro e w4 ⟨rfl, hb⟩
  have K4 := Lib.hid ((K2.out.alloc K2.out.size _).trans (hb.mono (by have := K2.out.size; simp; omega)))
  clear hb hcz hmk
  go_wp2_with fail
  refine (sum_nine _).mono ?_
  rintro e w5 ⟨rfl, rfl⟩
  go_wp2
  go_ret
  exact ⟨rfl, K4.out⟩
end Go.Proofs.Ytamfgpagjffbhaa
