/-
  NatSmalls' walk, for whole numbers as they come in.
-/
import Derived.Test.YtjnbdbgggcfbjaaSmalls
namespace Go.Proofs.Ytjnbdbgggcfbjaa
open Go.RowKit
theorem smalls_row (a0 a1 a2 : Int) (w : World) (g0 : (Lit.int .u64 a0).wf = true) (g1 : (Lit.int .u32 a1).wf = true) (g2 : (Lit.int .u32 a2).wf = true) :
    Calls Try.prog 10 #[.int .u64 a0, .int .u32 a1, .int .u32 a2] w fun e w' => e = .returned (.bool true) ∧ Below w.heap.size w w' := by
  have h0 : 0 ≤ a0 ∧ a0 ≤ 18446744073709551615 := by simpa [Lit.wf, IntKind.min, IntKind.max, IntKind.signed, IntKind.bits] using g0
  have h1 : 0 ≤ a1 ∧ a1 ≤ 4294967295 := by simpa [Lit.wf, IntKind.min, IntKind.max, IntKind.signed, IntKind.bits] using g1
  have h2 : 0 ≤ a2 ∧ a2 ≤ 4294967295 := by simpa [Lit.wf, IntKind.min, IntKind.max, IntKind.signed, IntKind.bits] using g2
  obtain ⟨n, rfl⟩ := Int.eq_ofNat_of_zero_le h0.1
  obtain ⟨a, rfl⟩ := Int.eq_ofNat_of_zero_le h1.1
  obtain ⟨b, rfl⟩ := Int.eq_ofNat_of_zero_le h2.1
  exact smalls_any n a b w (by omega) (by omega) (by omega)
end Go.Proofs.Ytjnbdbgggcfbjaa
