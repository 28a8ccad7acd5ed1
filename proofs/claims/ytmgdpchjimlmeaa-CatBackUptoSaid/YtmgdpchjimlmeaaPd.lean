/-
  The document's Seal.
-/
import Derived.Test.YtmgdpchjimlmeaaPc
import Derived.Deep.OwnRows
import Derived.Laws.OwnMore
namespace Go.Proofs.Ytmgdpchjimlmeaa
open Go.RowKit
theorem made_conv (w : World) (n : Nat) (z : List UInt8) (hz : z = List.replicate n 0) :
    (convert 68 9 (.slice (some ⟨w.heap.size, 0, none⟩) n n)).run Try.prog (w.alloc (.cells (madeCells #[.int .u8 0] n) 5)) = .ok (.string ⟨z.toArray⟩) (w.alloc (.cells (madeCells #[.int .u8 0] n) 5)) := by
  have hl : z.length = n := by rw [hz]; simp
  have := conv_of (w.alloc (.cells (madeCells #[.int .u8 0] n) 5)) w.heap.size n z (fun j hj => by
    rw [cell_of_row _ _ _ _ _ _ (heap_alloc_new w _)]
    subst hz
    have hjn : j < n := by simpa using hj
    simp [madeCells, hjn, Nat.mod_one])
  rw [hl] at this
  exact this
theorem elem8_info : (Try.prog.info? 5).map (fun i => (i.zero, i.size, i.bytes)) = some (some (.int .u8 0), 1, 1) := by kernel_rfl
end Go.Proofs.Ytmgdpchjimlmeaa
