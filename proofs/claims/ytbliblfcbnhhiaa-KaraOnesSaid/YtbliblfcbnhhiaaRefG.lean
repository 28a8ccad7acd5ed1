/-
  The reference's own text (astrolaberef01): Shr.
-/
import Derived.Test.YtbliblfcbnhhiaaRefF
namespace Go.Proofs.Ytbliblfcbnhhiaa
open Go.RowKit
theorem rshr_step {zs ys : List Nat} {k p s : Nat} (hz : zs.length = k) (hk : k < ys.length) (hok : ok32 ys) (hp : p < 32) (h : val zs + 4294967296 ^ k * (val (ys.drop k) / 2 ^ p) = val ys / 2 ^ p)
    (hs : s = ys[k]?.getD 0 + 4294967296 * (ys[k + 1]?.getD 0)) : val (zs ++ [s / 2 ^ p % 4294967296]) + 4294967296 ^ (k + 1) * (val (ys.drop (k + 1)) / 2 ^ p) = val ys / 2 ^ p := by
  have hss := two_pow_split p (by omega)
  have hP : 0 < 2 ^ p := Nat.pow_pos (by omega)
  have e1 : s / 2 ^ p % 4294967296 = val (ys.drop k) / 2 ^ p % 4294967296 := by
    rw [hs, val_drop_cons hk, shr_math _ _ _ _ hss hP, shr_math _ _ _ _ hss hP, Nat.add_mul_mod_self_left, Nat.add_mul_mod_self_left]
    congr 2
    rw [← val_mod hok (k + 1), Nat.mod_mul_mod]
  have e2 : val (ys.drop k) / 2 ^ p / 4294967296 = val (ys.drop (k + 1)) / 2 ^ p := by
    rw [Nat.div_div_eq_div_mul, Nat.mul_comm, ← Nat.div_div_eq_div_mul, val_drop_cons hk]
    congr 1
    have := getD_lt hok k
    omega
  rw [val_snoc, hz, e1, ← e2, Nat.pow_succ, Nat.mul_assoc, Nat.add_assoc, ← Nat.mul_add, Nat.mod_add_div]
  exact h
end Go.Proofs.Ytbliblfcbnhhiaa
