/-
  The reference's own text (astrolaberef01): Shl, Shr.
-/
import Derived.Test.YtbliblfcbnhhiaaRefE
import Derived.Test.YtbliblfcbnhhiaaShr
namespace Go.Proofs.Ytbliblfcbnhhiaa
open Go.RowKit
theorem rshl_or (x c p : Nat) (hx : x < 4294967296) (hc : c < 2 ^ p) (hp : p < 32) :
    bits BinOp.or IntKind.u64 (IntKind.u64.wrap ((x : Int) * 2 ^ p)) (c : Int) = ((x * 2 ^ p + c : Nat) : Int) ∧ x * 2 ^ p + c < 18446744073709551616 := by
  have hpl : 2 ^ p < 4294967296 := Nat.pow_lt_pow_right (by omega) (by omega : p < 32)
  have hm : x * 2 ^ p ≤ 4294967295 * 4294967295 := Nat.mul_le_mul (by omega) (by omega)
  have e : IntKind.u64.wrap ((x : Int) * 2 ^ p) = ((x * 2 ^ p : Nat) : Int) := by
    have e1 : (x : Int) * 2 ^ p = ((x * 2 ^ p : Nat) : Int) := by rw [Int.natCast_mul, Int.natCast_pow]; rfl
    have e2 : ∀ m : Int, IntKind.u64.wrap m = m % 18446744073709551616 := fun m => by simp [IntKind.wrap, IntKind.bits, IntKind.signed]
    rw [e1, e2]; omega
  refine ⟨?_, by omega⟩
  rw [e, u64_or_nat _ _ (by omega) (by omega), nat_join p _ _ (Nat.mul_mod_left _ _) hc]
theorem rshl_step {zs xs : List Nat} {k W p c t d : Nat} (hz : zs.length = W + k) (h : val zs + 4294967296 ^ (W + k) * c = 4294967296 ^ W * (val (xs.take k) * 2 ^ p))
    (hs : t + 4294967296 * d = (xs[k]?.getD 0) * 2 ^ p + c) : val (zs ++ [t]) + 4294967296 ^ (W + (k + 1)) * d = 4294967296 ^ W * (val (xs.take (k + 1)) * 2 ^ p) := by
  rw [← Nat.add_assoc, val_take_step, val_snoc, hz, Nat.pow_succ, Nat.add_mul, Nat.mul_add, ← h]
  have e1 : 4294967296 ^ W * (4294967296 ^ k * (xs[k]?.getD 0) * 2 ^ p) = 4294967296 ^ (W + k) * (xs[k]?.getD 0 * 2 ^ p) := by
    rw [Nat.pow_add, Nat.mul_assoc, Nat.mul_assoc]
  have e2 : 4294967296 ^ (W + k) * t + 4294967296 ^ (W + k) * 4294967296 * d = 4294967296 ^ (W + k) * (xs[k]?.getD 0 * 2 ^ p) + 4294967296 ^ (W + k) * c := by
    rw [Nat.mul_assoc, ← Nat.mul_add, hs, Nat.mul_add]
  rw [e1]
  omega
theorem own_zeros {w : World} {e : TypeId} (n : Nat) (hm : n ≤ maxLen) : (w.alloc (.cells (madeCells #[.int .u32 0] n) e)).ownsRow w.heap.size e 1 (.slice (some ⟨w.heap.size, 0, none⟩) n n) n (cells (List.replicate n 0)) := by
  refine ⟨by simp [cells], .inr ⟨w.heap.size, n, madeCells #[.int .u32 0] n, rfl, Nat.le_refl _, heap_alloc_new w _, Nat.le_refl _, hm, by simp [size_madeCells], ?_⟩⟩
  apply List.ext_getElem
  · simp [madeCells, cells]
  · intro i h1 h2
    simp [madeCells, cells, Nat.mod_one]
end Go.Proofs.Ytbliblfcbnhhiaa
