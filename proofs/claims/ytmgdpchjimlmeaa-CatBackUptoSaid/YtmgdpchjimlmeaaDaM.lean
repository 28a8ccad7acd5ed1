/-
  The document's Encode of a right list.
-/
import Derived.Test.YtmgdpchjimlmeaaCzM
import Derived.Test.YtmgdpchjimlmeaaRegB
namespace Go.Proofs.Ytmgdpchjimlmeaa.Cat
open Go.RowKit
theorem conv2 (x : World) (g q : Nat) (h : x.heap[g]? = some (.cells #[.int .u8 ((q : Int) / 256 % 256), .int .u8 ((q : Int) % 256)] 5 (0, 0))) :
    (convert 68 9 (.slice (some ⟨g, 0, none⟩) 2 2)).run Try.prog x = .ok (.string ⟨(be 2 q).toArray⟩) x := by
  have key : ∀ j, (hj : j < (be 2 q).length) → x.cell? ((⟨g, 0, none⟩ : Addr).add j) = some (.int .u8 ((be 2 q)[j].toNat : Int)) := by
    intro j hj
    rw [be_len] at hj
    rw [Addr.add_lit, Nat.zero_add, cell_of_row _ _ _ _ _ _ h]
    match j, hj with
    | 0, _ => simp [be, UInt8.toNat_ofNat']
    | 1, _ => simp [be, UInt8.toNat_ofNat']
  have := run_convert_bytes_back (P := Try.prog) x 68 9 5 ⟨g, 0, none⟩ 2 (be 2 q) Try.underlying68 Try.underlying5 Try.underlying9 key
  rw [be_len] at this
  exact this
theorem app_b (l m : List UInt8) : (⟨l.toArray⟩ : ByteArray) ++ ⟨m.toArray⟩ = ⟨(l ++ m).toArray⟩ := by rw [ByteArray.mk_append_mk]
end Go.Proofs.Ytmgdpchjimlmeaa.Cat
