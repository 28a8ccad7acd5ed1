/-
  Words of DiskLasts.
-/
import Derived.Test.YtnpcobekmghnaaaEl
namespace Go.Proofs.Ytnpcobekmghnaaa
open Go.RowKit
set_option linter.unusedSimpArgs false
set_option linter.unusedVariables false
/-- A write to each of the first n sectors. -/
def mk (f : Nat → List UInt8) (n : Nat) : List Wt := (List.range n).map fun i => (i, f i)
theorem mk_snoc (f : Nat → List UInt8) (n : Nat) : mk f (n + 1) = mk f n ++ [(n, f n)] := by unfold mk; rw [List.range_succ, List.map_append]; rfl
theorem mk_len (f : Nat → List UInt8) (n : Nat) : (mk f n).length = n := by unfold mk; simp
/-- What sector i says behind the power's loss. -/
def lastB (ks : List Int) (torn : Int) (q : Nat) (x y : Nat → List UInt8) (i : Nat) : List UInt8 :=
  if (i : Int) = torn then (y i).take q ++ (x i).drop q else if i < ks.length ∧ (ks[i]?.getD 0).tmod 2 ≠ 0 then y i else x i
theorem flush_mk {S : List (List UInt8)} {f : Nat → List UInt8} (hf : ∀ i, (f i).length = 64) (h64 : ∀ s ∈ S, s.length = 64) : ∀ n, n ≤ S.length → (∀ s ∈ flush S (mk f n), s.length = 64) ∧ ∀ i, i < n → (flush S (mk f n))[i]?.getD [] = f i := by
  intro n
  induction n with
  | zero => intro _; exact ⟨h64, fun i h => by omega⟩
  | succ n ih =>
    intro hn
    obtain ⟨h1, h2⟩ := ih (by omega)
    rw [mk_snoc, flush_snoc]
    have hl : n < (flush S (mk f n)).length := by rw [flush_len]; omega
    refine ⟨put_64 hl h1 (hf n) (by omega), fun i hi => ?_⟩
    rw [puts_at (hf n) h1 hl]
    by_cases e : n = i
    · subst e; rw [if_pos rfl]
    · rw [if_neg e]; exact h2 i (by omega)
theorem crash_snoc (ks : List Int) (torn : Int) (q : Nat) (S : List (List UInt8)) (C : List Wt) (c : Wt) : crash ks torn q S (C ++ [c]) = cstep ks torn q (crash ks torn q S C) C.length c := by
  unfold crash
  rw [List.zipIdx_append, List.foldl_append]
  simp
theorem put_other_at {S : List (List UInt8)} {k i q : Nat} {t : List UInt8} (h : k ≠ i) : (put S k t q)[i]?.getD [] = S[i]?.getD [] := by unfold put; rw [List.getElem?_set, if_neg h]
theorem put_same_at {S : List (List UInt8)} {k q : Nat} {t : List UInt8} (hk : k < S.length) : (put S k t q)[k]?.getD [] = t.take q ++ (S[k]?.getD []).drop q := by unfold put; rw [List.getElem?_set, if_pos rfl, if_pos hk]; rfl
theorem crash_mk {S : List (List UInt8)} {x y : Nat → List UInt8} {ks : List Int} {torn : Int} {q : Nat} (hq : q ≤ 64) (hy : ∀ i, (y i).length = 64) (hS : ∀ i, i < S.length → S[i]?.getD [] = x i) (h64 : ∀ s ∈ S, s.length = 64) : ∀ n, n ≤ S.length → (∀ s ∈ crash ks torn q S (mk y n), s.length = 64) ∧ ∀ i, i < S.length → (crash ks torn q S (mk y n))[i]?.getD [] = if i < n then lastB ks torn q x y i else x i := by
  intro n
  induction n with
  | zero => intro _; exact ⟨h64, fun i h => by rw [if_neg (by omega)]; exact hS i h⟩
  | succ n ih =>
    intro hn
    obtain ⟨h1, h2⟩ := ih (by omega)
    have hl : n < (crash ks torn q S (mk y n)).length := by rw [crash_len]; omega
    have hn0 := h2 n (by omega)
    rw [if_neg (by omega)] at hn0
    rw [mk_snoc, crash_snoc, mk_len]
    unfold cstep
    by_cases ht : (n : Int) = torn
    · rw [if_pos ht]
      refine ⟨put_64 hl h1 (hy n) hq, fun i hi => ?_⟩
      by_cases e : n = i
      · subst e
        rw [put_same_at hl, hn0, if_pos (by omega)]
        unfold lastB; rw [if_pos ht]
      · rw [put_other_at e, h2 i hi]
        by_cases h3 : i < n
        · rw [if_pos h3, if_pos (by omega)]
        · rw [if_neg h3, if_neg (by omega)]
    · rw [if_neg ht]
      by_cases hk : n < ks.length ∧ (ks[n]?.getD 0).tmod 2 ≠ 0
      · rw [if_pos hk]
        refine ⟨put_64 hl h1 (hy n) (by omega), fun i hi => ?_⟩
        rw [puts_at (hy n) h1 hl]
        by_cases e : n = i
        · subst e
          rw [if_pos rfl, if_pos (by omega)]
          unfold lastB; rw [if_neg ht, if_pos hk]
        · rw [if_neg e, h2 i hi]
          by_cases h3 : i < n
          · rw [if_pos h3, if_pos (by omega)]
          · rw [if_neg h3, if_neg (by omega)]
      · rw [if_neg hk]
        refine ⟨h1, fun i hi => ?_⟩
        rw [h2 i hi]
        by_cases e : n = i
        · subst e
          rw [if_neg (by omega), if_pos (by omega)]
          unfold lastB; rw [if_neg ht, if_neg hk]
        · by_cases h3 : i < n
          · rw [if_pos h3, if_pos (by omega)]
          · rw [if_neg h3, if_neg (by omega)]
theorem conv_one (n : Nat) (hn : n < 256) (z : Int) (hz : z = (n : Int)) (x : World) : (convert 30 9 (.slice (some ⟨x.heap.size, 0, none⟩) 1 1)).run Try.prog (x.alloc (.cells #[.int .u8 z] 5)) = .ok (.string ⟨[UInt8.ofNat n].toArray⟩) (x.alloc (.cells #[.int .u8 z] 5)) := by
  have := conv_new 1 [UInt8.ofNat n] rfl x
  have e : (bc [UInt8.ofNat n]).toArray = #[Value.int .u8 z] := by
    subst hz
    unfold bc
    simp [UInt8.toNat_ofNat', Nat.mod_eq_of_lt hn]
  rw [e] at this
  exact this
theorem wrap_u8n {d : Nat} (h : d < 256) : IntKind.u8.wrap (d : Int) = (d : Int) := by
  simp [IntKind.wrap, IntKind.signed, IntKind.bits]; omega
/-- A text with a byte behind, to a sector's bytes. -/
def lx (a : ByteArray) (n : Nat) : List UInt8 := fillB (a.data.toList ++ [UInt8.ofNat n])
theorem lx_len (a : ByteArray) (n : Nat) : (lx a n).length = 64 := fillB_len _
theorem cutQ_le (c : Int) : cutQ c ≤ 64 := by unfold cutQ; omega
end Go.Proofs.Ytnpcobekmghnaaa
