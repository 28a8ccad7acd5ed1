/-
  The reference's own text (astrolaberef01): Sub, Mul.
-/
import Derived.Test.YtbliblfcbnhhiaaRefC
import Derived.Test.YtbliblfcbnhhiaaMul
namespace Go.Proofs.Ytbliblfcbnhhiaa
open Go.RowKit
theorem rsub_step {xs ys zs : List Nat} {k s d c t : Nat} (hz : zs.length = k) (h : val (xs.take k) + 4294967296 ^ k * c = val zs + val (ys.take k))
    (hs : s + ys[k]?.getD 0 + c = xs[k]?.getD 0 + 4294967296 * d) (ht : t = s) : val (xs.take (k + 1)) + 4294967296 ^ (k + 1) * d = val (zs ++ [t]) + val (ys.take (k + 1)) := by
  subst ht
  rw [val_take_step, val_take_step, val_snoc, hz, Nat.pow_succ]
  have : 4294967296 ^ k * (xs[k]?.getD 0) + 4294967296 ^ k * 4294967296 * d = 4294967296 ^ k * t + 4294967296 ^ k * (ys[k]?.getD 0) + 4294967296 ^ k * c := by
    rw [Nat.mul_assoc, ← Nat.mul_add, ← hs, Nat.mul_add, Nat.mul_add]
  omega
theorem rsub_end {xs ys zs : List Nat} {d : Nat} (o1 : ok32 xs) (o2 : ok32 ys) (o3 : ok32 zs) (hz : zs.length = xs.length) (hle : val ys ≤ val xs) (h : val (xs.take xs.length) + 4294967296 ^ xs.length * d = val zs + val (ys.take xs.length)) : val zs = val xs - val ys := by
  have hy : val (ys.take xs.length) = val ys := by
    rw [val_take_mod o2, Nat.mod_eq_of_lt (Nat.lt_of_le_of_lt hle (val_lt o1))]
  rw [List.take_of_length_le (Nat.le_refl _), hy] at h
  exact sub_end h (by rw [← hz]; exact val_lt o3) hle
end Go.Proofs.Ytbliblfcbnhhiaa
