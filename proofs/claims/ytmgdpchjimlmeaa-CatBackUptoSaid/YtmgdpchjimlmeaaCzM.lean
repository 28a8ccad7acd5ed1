/-
  Refused: the document's Encode of a list that is not right; Decode of a length that is none.
-/
import Derived.Test.YtmgdpchjimlmeaaCyM
namespace Go.Proofs.Ytmgdpchjimlmeaa.Cat
open Go.RowKit
set_option maxHeartbeats 1000000 in
set_option maxRecDepth 100000 in
theorem decode_rem (s : List UInt8) (w : World) (hm : s.length ≤ 9223372036854775807) (h : 4 ≤ s.length) (h2 : (s.length - 4) % 6 ≠ 0) :
    Calls Try.prog 9 #[.string ⟨s.toArray⟩] w fun e w' => e = .returned (.tuple #[.agg #[.int .i64 0, .slice none 0 0], .int .i64 2]) ∧ Below w.heap.size w w' := by
  have ss := Lib.hid (str_size s)
  have e1 : decide (s.length < 4) = false := decide_eq_false (by omega)
  have e2 : decide ((s.length : Int) < 4) = false := by simp; omega
  have e3 : (((s.length : Int) - 4).tmod 6 != 0) = true := by
    rw [Int.tmod_eq_emod_of_nonneg (by omega)]
    simp only [bne_iff_ne, ne_eq]
    omega
  have e4 : (((s.length : Int) - 4) % 6 != 0) = true := by
    simp only [bne_iff_ne, ne_eq]
    omega
  clear h h2
  go_enter Try.func9, Try.ntmps9
  go_wp2
  refine bodyPost_ret (v := .tuple #[.agg #[.int .i64 0, .slice none 0 0], .int .i64 2]) (by simp [results, Try.results9, go_sem]) rfl ⟨rfl, ?_⟩
  exact bda _ _
end Go.Proofs.Ytmgdpchjimlmeaa.Cat
