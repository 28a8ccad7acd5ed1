/-
  nat.Shr.
-/
import Derived.Test.YtbliblfcbnhhiaaShl
import Derived.BigRegion
import Derived.RegionTactic
namespace Go.Proofs.Ytbliblfcbnhhiaa
open Go.RowKit
theorem val_drop (xs : List Nat) (h : ok32 xs) (W : Nat) : val (xs.drop W) = val xs / 4294967296 ^ W := by
  rcases Nat.lt_or_ge xs.length W with hl | hl
  · rw [List.drop_eq_nil_of_le (by omega)]
    have h1 := val_lt h
    have h2 := Nat.pow_le_pow_right (n := 4294967296) (by omega) (show xs.length ≤ W by omega)
    rw [Nat.div_eq_of_lt (by omega)]; rfl
  · have e : val xs = val (xs.take W) + 4294967296 ^ W * val (xs.drop W) := by
      conv => lhs; rw [← List.take_append_drop W xs, val_append]
      rw [List.length_take, Nat.min_eq_left hl]
    have h1 : val (xs.take W) < 4294967296 ^ W := by
      have := val_lt (xs := xs.take W) (fun x hx => h x (List.mem_of_mem_take hx))
      rwa [List.length_take, Nat.min_eq_left hl] at this
    rw [e, Nat.add_mul_div_left _ _ (Nat.pow_pos (by omega)), Nat.div_eq_of_lt h1, Nat.zero_add]
theorem val_drop_cons {xs : List Nat} {k : Nat} (h : k < xs.length) : val (xs.drop k) = xs[k]?.getD 0 + 4294967296 * val (xs.drop (k + 1)) := by
  rw [List.drop_eq_getElem_cons h, List.getElem?_eq_getElem h]; rfl
theorem val_mod {xs : List Nat} (h : ok32 xs) (k : Nat) : val (xs.drop k) % 4294967296 = xs[k]?.getD 0 := by
  rcases Nat.lt_or_ge k xs.length with hk | hk
  · rw [val_drop_cons hk]; have := getD_lt h k; omega
  · rw [List.drop_eq_nil_of_le hk, List.getElem?_eq_none hk]; rfl
/-- Moved down by p bits: the next digit lends its lower ones. -/
theorem shr_math (y R P Q : Nat) (hs : P * Q = 4294967296) (hP : 0 < P) : (y + 4294967296 * R) / P = (y / P + R * Q % 4294967296) + 4294967296 * (R / P) := by
  have e1 : (y + 4294967296 * R) / P = y / P + Q * R := by
    rw [← hs, Nat.mul_assoc, Nat.add_mul_div_left _ _ hP]
  have e2 : R * Q = 4294967296 * (R / P) + R * Q % 4294967296 := by
    have hq : R * Q / 4294967296 = R / P := by
      have hQ : 0 < Q := Nat.pos_of_ne_zero (by rintro rfl; simp at hs)
      rw [← hs, Nat.mul_div_mul_right _ _ hQ]
    have := Nat.div_add_mod (R * Q) 4294967296
    rw [hq] at this
    exact this.symm
  rw [e1, Nat.mul_comm Q R]
  omega
theorem shr_digit (y z p : Nat) (hy : y < 4294967296) (hp : p < 32) : y / 2 ^ p + z * 2 ^ (32 - p) % 4294967296 < 4294967296 ∧ z * 2 ^ (32 - p) % 4294967296 % 2 ^ (32 - p) = 0 ∧ y / 2 ^ p < 2 ^ (32 - p) := by
  have hs := two_pow_split p (by omega)
  have hpp : 0 < 2 ^ p := Nat.pow_pos (by omega)
  have hqq : 0 < 2 ^ (32 - p) := Nat.pow_pos (by omega)
  generalize 2 ^ p = P at *
  generalize 2 ^ (32 - p) = Q at *
  have e1 : z * Q % 4294967296 = z % P * Q := by rw [← hs, Nat.mul_mod_mul_right]
  have h3 : z % P < P := Nat.mod_lt _ hpp
  have h4 : y / P < Q := by rw [Nat.div_lt_iff_lt_mul hpp, Nat.mul_comm, hs]; exact hy
  rw [e1]
  refine ⟨?_, Nat.mul_mod_left _ _, h4⟩
  have : z % P * Q + Q ≤ P * Q := by
    calc z % P * Q + Q = (z % P + 1) * Q := by rw [Nat.add_mul, Nat.one_mul]
      _ ≤ P * Q := Nat.mul_le_mul_right _ h3
  omega
theorem shr_or (y z p : Nat) (hy : y < 4294967296) (hp : p < 32) :
    bits BinOp.or IntKind.u32 ((y : Int) / 2 ^ p) (((z : Int) * 2 ^ (32 - p)) % 4294967296) = ((y / 2 ^ p + z * 2 ^ (32 - p) % 4294967296 : Nat) : Int) := by
  obtain ⟨h1, h2, h3⟩ := shr_digit y z p hy hp
  have e : ((z : Int) * 2 ^ (32 - p)) % 4294967296 = ((z * 2 ^ (32 - p) % 4294967296 : Nat) : Int) := by
    rw [Int.natCast_emod, Int.natCast_mul, Int.natCast_pow]; rfl
  have e' : (y : Int) / 2 ^ p = ((y / 2 ^ p : Nat) : Int) := by rw [Int.natCast_ediv, Int.natCast_pow]; rfl
  rw [e, e', u32_or_nat _ _ (Nat.lt_of_le_of_lt (Nat.div_le_self _ _) hy) (Nat.mod_lt _ (by omega)), Nat.or_comm, nat_join (32 - p) _ _ h2 h3, Nat.add_comm]
theorem shr_step {zs ys : List Nat} {k p t : Nat} (hz : k < zs.length) (hk : k < ys.length) (hok : ok32 ys) (hp : p < 32) (h : val (zs.take k) + 4294967296 ^ k * (val (ys.drop k) / 2 ^ p) = val ys / 2 ^ p)
    (ht : t = ys[k]?.getD 0 / 2 ^ p + (ys[k + 1]?.getD 0) * 2 ^ (32 - p) % 4294967296) : val ((zs.set k t).take (k + 1)) + 4294967296 ^ (k + 1) * (val (ys.drop (k + 1)) / 2 ^ p) = val ys / 2 ^ p := by
  have hs := two_pow_split p (by omega)
  rw [take_set hz, val_snoc, List.length_take, Nat.min_eq_left (by omega), ← h, val_drop_cons hk, shr_math _ _ _ _ hs (Nat.pow_pos (by omega)), ht]
  have hm : val (ys.drop (k + 1)) * 2 ^ (32 - p) % 4294967296 = ys[k + 1]?.getD 0 * 2 ^ (32 - p) % 4294967296 := by
    rw [Nat.mul_mod, val_mod hok, ← Nat.mod_eq_of_lt (getD_lt hok (k + 1)), ← Nat.mul_mod, Nat.mod_eq_of_lt (getD_lt hok (k + 1))]
  rw [hm, Nat.pow_succ]
  simp only [Nat.mul_add, Nat.mul_assoc, Nat.add_assoc]
theorem shr_pow (v n : Nat) : v / 4294967296 ^ (n / 32) / 2 ^ (n % 32) = v / 2 ^ n := by
  rw [Nat.div_div_eq_div_mul, pow_parts]
theorem Dg.drop {w : World} {b off c : Nat} {xs : List Nat} {k : Nat} (h : Dg w (some ⟨b, off, none⟩) c xs) (hk : k < xs.length) : Dg w (some ⟨b, off + k, none⟩) (c - k) (xs.drop k) := by
  refine ⟨by rw [List.length_drop]; have := h.1; omega, fun x hx => h.2.1 x (List.mem_of_mem_drop hx), fun _ => ?_⟩
  obtain ⟨b', off', e, hb, hc⟩ := h.2.2 (by omega)
  injection e with e
  injection e with e1 e2 _
  subst e1 e2
  refine ⟨b, off + k, rfl, hb, fun j hj => ?_⟩
  rw [List.length_drop] at hj
  rw [Nat.add_assoc, hc (k + j) (by omega), List.getElem?_drop]
end Go.Proofs.Ytbliblfcbnhhiaa
