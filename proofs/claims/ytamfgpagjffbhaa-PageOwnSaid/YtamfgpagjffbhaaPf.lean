/-
  The document's Open.
-/
import Derived.Test.YtamfgpagjffbhaaPe
import Derived.Deep.RegionWith
namespace Go.Proofs.Ytamfgpagjffbhaa
open Go.RowKit
theorem conv4w (w : World) (p : List UInt8) : (convert 34 9 (.slice (some ⟨w.heap.size, 0, none⟩) 4 4)).run Try.prog (w.alloc (.cells #[.int .u8 (IntKind.u8.wrap (sumL p : Int)), .int .u8 (IntKind.u8.wrap ((sumL p : Int) / 256)), .int .u8 (IntKind.u8.wrap ((sumL p : Int) / 65536)), .int .u8 (IntKind.u8.wrap ((sumL p : Int) / 16777216))] 5)).drew = .ok (.string ⟨(b4 (sumL p)).toArray⟩) (w.alloc (.cells #[.int .u8 (IntKind.u8.wrap (sumL p : Int)), .int .u8 (IntKind.u8.wrap ((sumL p : Int) / 256)), .int .u8 (IntKind.u8.wrap ((sumL p : Int) / 65536)), .int .u8 (IntKind.u8.wrap ((sumL p : Int) / 16777216))] 5)).drew := by
  simp only [IntKind.wrap_u8']
  exact conv4 (w.alloc (.cells #[.int .u8 ((sumL p : Int) % 256), .int .u8 ((sumL p : Int) / 256 % 256), .int .u8 ((sumL p : Int) / 65536 % 256), .int .u8 ((sumL p : Int) / 16777216 % 256)] 5)).drew w.heap.size (sumL p) (row_cell w [.int .u8 ((sumL p : Int) % 256), .int .u8 ((sumL p : Int) / 256 % 256), .int .u8 ((sumL p : Int) / 65536 % 256), .int .u8 ((sumL p : Int) / 16777216 % 256)] _ 0) (row_cell w [.int .u8 ((sumL p : Int) % 256), .int .u8 ((sumL p : Int) / 256 % 256), .int .u8 ((sumL p : Int) / 65536 % 256), .int .u8 ((sumL p : Int) / 16777216 % 256)] _ 1) (row_cell w [.int .u8 ((sumL p : Int) % 256), .int .u8 ((sumL p : Int) / 256 % 256), .int .u8 ((sumL p : Int) / 65536 % 256), .int .u8 ((sumL p : Int) / 16777216 % 256)] _ 2) (row_cell w [.int .u8 ((sumL p : Int) % 256), .int .u8 ((sumL p : Int) / 256 % 256), .int .u8 ((sumL p : Int) / 65536 % 256), .int .u8 ((sumL p : Int) / 16777216 % 256)] _ 3)
theorem ok_small {b : List UInt8} (hn : sealL (at8 b 2) (openT b) = b) : at8 b 3 ≤ 120 := by
  have h1 := openT_len b
  have h2 : at8 b 3 = at8 (sealL (at8 b 2) (openT b)) 3 := by rw [hn]
  have h3 : at8 (sealL (at8 b 2) (openT b)) 3 = (openT b).length := by
    generalize openT b = t at h1 ⊢
    generalize at8 b 2 = k
    unfold at8 sealL bodyL
    simp [UInt8.toNat_ofNat']
    omega
  omega
end Go.Proofs.Ytamfgpagjffbhaa
