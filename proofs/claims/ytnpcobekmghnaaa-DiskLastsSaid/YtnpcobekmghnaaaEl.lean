/-
  Words of DiskOwn.
-/
import Derived.Test.YtnpcobekmghnaaaEk
namespace Go.Proofs.Ytnpcobekmghnaaa
open Go.RowKit
set_option linter.unusedSimpArgs false
set_option linter.unusedVariables false
/-- What six sectors say. -/
def wants (S : List (List UInt8)) (C : List Wt) : List (List UInt8) := (List.range 6).map (rd S C)
theorem wants_len (S : List (List UInt8)) (C : List Wt) : (wants S C).length = 6 := by unfold wants; simp
theorem wants_at (S : List (List UInt8)) (C : List Wt) {i : Nat} (h : i < 6) : (wants S C)[i]? = some (rd S C i) := by unfold wants; rw [List.getElem?_map, List.getElem?_range h]; rfl
theorem wants_more (S : List (List UInt8)) (C : List Wt) (k : Nat) (t : List UInt8) (hk : k < 6) : wants S (C ++ [(k, t)]) = (wants S C).set k t := by
  apply List.ext_getElem?
  intro i
  rw [List.getElem?_set]
  by_cases h : i < 6
  · rw [wants_at _ _ h, rd_snoc]
    by_cases e : k = i
    · subst e; rw [if_pos rfl, if_pos rfl, if_pos (by rw [wants_len]; exact h)]
    · rw [if_neg e, if_neg e, wants_at _ _ h]
  · rw [List.getElem?_eq_none (by rw [wants_len]; omega)]
    rw [if_neg (by omega), List.getElem?_eq_none (by rw [wants_len]; omega)]
theorem puts_at {S : List (List UInt8)} {k : Nat} {t : List UInt8} (ht : t.length = 64) (h64 : ∀ s ∈ S, s.length = 64) (hk : k < S.length) (i : Nat) : (put S k t 64)[i]?.getD [] = if k = i then t else S[i]?.getD [] := by
  unfold put
  have e : (S[k]?.getD []).drop 64 = [] := by
    rw [List.getElem?_eq_getElem hk, Option.getD_some, List.drop_of_length_le (by rw [h64 _ (List.getElem_mem hk)]; exact Nat.le_refl _)]
  rw [e, List.append_nil, List.take_of_length_le (by omega), List.getElem?_set]
  by_cases h : k = i
  · subst h; rw [if_pos rfl, if_pos rfl, if_pos hk]; rfl
  · rw [if_neg h, if_neg h]
theorem flush_ok {S : List (List UInt8)} {C : List Wt} (h64 : ∀ s ∈ S, s.length = 64) (c64 : ∀ c ∈ C, c.2.length = 64) (cn : ∀ c ∈ C, c.1 < S.length) : (∀ s ∈ flush S C, s.length = 64) ∧ ∀ i, (flush S C)[i]?.getD [] = rd S C i := by
  unfold flush rd
  induction C generalizing S with
  | nil => exact ⟨h64, fun i => rfl⟩
  | cons c r ih =>
    have a := c64 c (by simp)
    have b := cn c (by simp)
    have p := put_64 (k := 64) b h64 a (by omega)
    obtain ⟨h1, h2⟩ := ih p (fun x hx => c64 x (by simp [hx])) (fun x hx => by rw [put_len]; exact cn x (by simp [hx]))
    refine ⟨h1, fun i => ?_⟩
    rw [List.foldl_cons, h2 i, List.foldl_cons]
    congr 1
    exact puts_at a h64 b i
theorem wants_flush {B g gs : Nat} {v : Value} {S : List (List UInt8)} {C : List Wt} {w : World} (h : Dk B w g gs v S C) : wants (flush S C) [] = wants S C := by
  unfold wants
  apply List.map_congr_left
  intro i _
  exact (flush_ok h.s64 h.c64 h.cn).2 i
theorem crash_nil (ks : List Int) (torn : Int) (q : Nat) (S : List (List UInt8)) : crash ks torn q S [] = S := rfl
/-- The want ahead of place k of the first loop. -/
def wz (k : Nat) : List (List UInt8) := (List.range 6).map fun j => if j < k then z64 else []
theorem wz_set (k : Nat) (h : k < 6) : (wz k).set k z64 = wz (k + 1) := by
  apply List.ext_getElem?
  intro i
  unfold wz
  rw [List.getElem?_set]
  simp only [List.length_map, List.length_range]
  by_cases e : k = i
  · subst e; rw [if_pos rfl, if_pos h, List.getElem?_map, List.getElem?_range h]; simp
  · rw [if_neg e, List.getElem?_map, List.getElem?_map]
    by_cases h2 : i < 6
    · rw [List.getElem?_range h2]
      simp only [Option.map_some]
      by_cases h3 : i < k
      · rw [if_pos h3, if_pos (by omega)]
      · rw [if_neg h3, if_neg (by omega)]
    · rw [List.getElem?_eq_none (by simp; omega)]; rfl
theorem wz_six : wz 6 = wants (List.replicate 6 z64) [] := by decide +kernel
theorem wz_at {k j : Nat} (h : j < 6) : ∃ l, (wz k)[j]? = some l := by unfold wz; rw [List.getElem?_map, List.getElem?_range h]; exact ⟨_, rfl⟩
/-- A row of texts with one of them set. -/
theorem row_sv {w : World} {gw k : Nat} {Wl : List (List UInt8)} {T : TypeId} (h : w.heap[gw]? = some (.cells (Wl.map sv).toArray T (0, 0))) (t : List UInt8) : (w.setCell ⟨gw, k, none⟩ (.string ⟨t.toArray⟩)).heap[gw]? = some (.cells ((Wl.set k t).map sv).toArray T (0, 0)) := by
  have := heap_setCell_same _ _ k _ _ (.string ⟨t.toArray⟩) h
  rw [this]
  congr 2
  apply Array.ext_getElem?
  intro i
  simp only [Array.getElem?_setIfInBounds, List.getElem?_toArray, List.getElem?_map, List.getElem?_set, List.size_toArray, List.length_map]
  by_cases e : k = i
  · subst e
    by_cases h2 : k < Wl.length
    · simp [h2, sv]
    · simp [h2]
  · simp [e]
theorem Dk.otherW {B g gs b i : Nat} {u : Value} {S : List (List UInt8)} {w : World} (h : Dk B w g gs (.slice none 0 0) S []) (n1 : b ≠ g) (n2 : b ≠ gs) : Dk B (w.setCell ⟨b, i, none⟩ u) g gs (.slice none 0 0) S [] :=
  ⟨by rw [heap_setCell_other _ _ _ _ (fun e => n1 e.symm)]; exact h.hg, by rw [heap_setCell_other _ _ _ _ (fun e => n2 e.symm)]; exact h.hs, World.ownsRow_nil _ _ _ _, h.gB, h.sB, h.ne, by simpa [World.setCell] using h.hB, h.s64, h.c64, h.cn, h.n1, h.n2⟩
theorem Dk.other {B g gs b i : Nat} {v u : Value} {S : List (List UInt8)} {C : List Wt} {w : World} (h : Dk B w g gs v S C) (hb : b < B) (n1 : b ≠ g) (n2 : b ≠ gs) : Dk B (w.setCell ⟨b, i, none⟩ u) g gs v S C :=
  ⟨by rw [heap_setCell_other _ _ _ _ (fun e => n1 e.symm)]; exact h.hg, by rw [heap_setCell_other _ _ _ _ (fun e => n2 e.symm)]; exact h.hs, own_set h.ho hb i u, h.gB, h.sB, h.ne, by simpa [World.setCell] using h.hB, h.s64, h.c64, h.cn, h.n1, h.n2⟩
end Go.Proofs.Ytnpcobekmghnaaa
