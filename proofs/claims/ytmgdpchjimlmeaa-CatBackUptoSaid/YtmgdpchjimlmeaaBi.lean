/-
  What Write has written is a text's chain; Pages, Read over a pager.
-/
import Derived.Test.YtmgdpchjimlmeaaBe
import Derived.Test.YtmgdpchjimlmeaaBh
namespace Go.Proofs.Ytmgdpchjimlmeaa
open Go.RowKit
set_option linter.unusedSimpArgs false
set_option linter.unusedVariables false
/-- A text's pages with their pieces. -/
def chs (A : List Nat) (l : List UInt8) : List (Nat × List UInt8) := (List.range A.length).map fun j => ((A[j]?).getD 0, (l.drop (118 * j)).take 118)
theorem chs_len (A : List Nat) (l : List UInt8) : (chs A l).length = A.length := by unfold chs; simp
theorem chs_at {A : List Nat} {l : List UInt8} {j : Nat} (h : j < A.length) : (chs A l)[j]? = some ((A[j]?).getD 0, (l.drop (118 * j)).take 118) := by
  unfold chs
  rw [List.getElem?_map, List.getElem?_range h]; rfl
theorem chs_fst (A : List Nat) (l : List UInt8) : (chs A l).map Prod.fst = A := by
  apply List.ext_getElem?
  intro j
  rw [List.getElem?_map]
  rcases Nat.lt_or_ge j A.length with h | h
  · rw [chs_at h, List.getElem?_eq_getElem h]; rfl
  · rw [List.getElem?_eq_none (by rw [chs_len]; exact h), List.getElem?_eq_none h]; rfl
theorem chs_nxt (A : List Nat) (l : List UInt8) (j : Nat) : nxt (chs A l) j = (A[j + 1]?).getD 0 := by
  unfold nxt
  rcases Nat.lt_or_ge (j + 1) A.length with h | h
  · rw [chs_at h]; rfl
  · rw [List.getElem?_eq_none (by rw [chs_len]; exact h), List.getElem?_eq_none h]; rfl
theorem pieces (l : List UInt8) : ∀ k, l.length ≤ 118 * k → ((List.range k).map fun j => (l.drop (118 * j)).take 118).flatten = l := by
  have h : ∀ k, ((List.range k).map fun j => (l.drop (118 * j)).take 118).flatten = l.take (118 * k) := by
    intro k
    induction k with
    | zero => simp
    | succ k ih =>
      rw [List.range_succ, List.map_append, List.flatten_append, ih]
      simp only [List.map_cons, List.map_nil, List.flatten_cons, List.flatten_nil, List.append_nil]
      rw [show 118 * (k + 1) = 118 * k + 118 by omega, List.take_add]
  intro k hk
  rw [h k, List.take_of_length_le hk]
theorem pieces_drop (A : List Nat) (l : List UInt8) (i : Nat) (hl : l.length ≤ 118 * A.length) (hi : i ≤ A.length) : (((chs A l).drop i).map (·.2)).flatten = l.drop (118 * i) := by
  have e : ((chs A l).drop i).map (·.2) = (List.range (A.length - i)).map fun j => ((l.drop (118 * i)).drop (118 * j)).take 118 := by
    apply List.ext_getElem?
    intro j
    rw [List.getElem?_map, List.getElem?_drop, List.getElem?_map]
    rcases Nat.lt_or_ge j (A.length - i) with h | h
    · rw [chs_at (by omega), List.getElem?_range h]
      simp only [Option.map_some, List.drop_drop]
      rw [show 118 * (i + j) = 118 * i + 118 * j by omega]
    · rw [List.getElem?_eq_none (by rw [chs_len]; omega), List.getElem?_eq_none (by simp; omega)]; rfl
  rw [e, pieces _ _ (by rw [List.length_drop]; omega)]
theorem rd_no {S : List (List UInt8)} {C : List Wt} {i : Nat} : ∀ {D : List Wt}, (∀ c ∈ D, c.1 ≠ i) → rd S (C ++ D) i = rd S C i := by
  intro D
  induction D generalizing C with
  | nil => intro _; rw [List.append_nil]
  | cons d D ih =>
    intro h
    rw [show C ++ d :: D = (C ++ [d]) ++ D by simp, ih (fun c hc => h c (List.mem_cons_of_mem _ hc)), rd_snoc, if_neg (h d List.mem_cons_self)]
theorem wrs_mem {A : List Nat} {l : List UInt8} {i : Nat} {c : Wt} (h : c ∈ wrs A l i) : ∃ j, j < i ∧ (c.1 = 2 * (A[j]?).getD 0 ∨ c.1 = 2 * (A[j]?).getD 0 + 1) := by
  unfold wrs at h
  rw [List.mem_flatMap] at h
  obtain ⟨j, hj, hc⟩ := h
  refine ⟨j, List.mem_range.1 hj, ?_⟩
  unfold pwr at hc
  rcases List.mem_cons.1 hc with rfl | hc
  · exact .inl rfl
  · rcases List.mem_cons.1 hc with rfl | hc
    · exact .inr rfl
    · cases hc
theorem wrs_rd {S : List (List UInt8)} {C : List Wt} {A : List Nat} {l : List UInt8} (hA : A.Nodup) : ∀ {i : Nat}, i ≤ A.length → ∀ j, j < i → rd S (C ++ wrs A l i) (2 * (A[j]?).getD 0) ++ rd S (C ++ wrs A l i) (2 * (A[j]?).getD 0 + 1) = sealL 2 (txt A l j) := by
  intro i
  induction i with
  | zero => intro _ j hj; omega
  | succ i ih =>
    intro hi j hj
    rw [wrs_succ, ← List.append_assoc]
    rcases Nat.lt_or_ge j i with h | h
    · have hne : (A[i]?).getD 0 ≠ (A[j]?).getD 0 := by
        rw [List.getElem?_eq_getElem (by omega), List.getElem?_eq_getElem (show j < A.length by omega)]
        intro e
        have := (List.getElem_inj hA).1 e
        omega
      have hm : ∀ c ∈ pwr ((A[i]?).getD 0) (txt A l i), c.1 = 2 * (A[i]?).getD 0 ∨ c.1 = 2 * (A[i]?).getD 0 + 1 := by
        intro c hc
        unfold pwr at hc
        rcases List.mem_cons.1 hc with rfl | hc
        · exact .inl rfl
        · rcases List.mem_cons.1 hc with rfl | hc
          · exact .inr rfl
          · cases hc
      rw [rd_no (C := C ++ wrs A l i) (D := pwr ((A[i]?).getD 0) (txt A l i)) (fun c hc => by rcases hm c hc with h | h <;> omega), rd_no (C := C ++ wrs A l i) (D := pwr ((A[i]?).getD 0) (txt A l i)) (fun c hc => by rcases hm c hc with h | h <;> omega), ih (by omega) j h]
    · obtain rfl : j = i := by omega
      rw [show pwr ((A[j]?).getD 0) (txt A l j) = [(2 * (A[j]?).getD 0, (sealL 2 (txt A l j)).take 64)] ++ [(2 * (A[j]?).getD 0 + 1, (sealL 2 (txt A l j)).drop 64)] from rfl, ← List.append_assoc, rd_snoc, rd_snoc, rd_snoc, if_neg (by show ¬ (2 * _ + 1 = 2 * _); omega), if_pos rfl, if_pos rfl, List.take_append_drop]
theorem nd_le (n : Nat) : n ≤ 118 * nd n := by unfold nd; omega
/-- The pages of a text that has just been written. -/
theorem chn_new {S : List (List UInt8)} {C : List Wt} {M K : Nat} {A : List Nat} {l : List UInt8} (hK : nd l.length = K) (h5 : K ≤ 500) (hA : A.Nodup) (hl : A.length = K) (h2 : ∀ x ∈ A, 2 ≤ x ∧ x < M) : Chn S (C ++ wrs A l K) M (chs A l) := by
  refine ⟨by rw [chs_len, hl, ← hK]; unfold nd; omega, by rw [chs_len]; omega, by rw [chs_fst]; exact hA, fun i x hx => ?_⟩
  have hi : i < A.length := by have := (List.getElem?_eq_some_iff.1 hx).1; rwa [chs_len] at this
  rw [chs_at hi] at hx
  obtain rfl := Option.some.inj hx
  have hm := h2 _ (List.getElem_mem hi)
  have e : (A[i]?).getD 0 = A[i] := by rw [List.getElem?_eq_getElem hi]; rfl
  refine ⟨by show 2 ≤ (A[i]?).getD 0; omega, by show (A[i]?).getD 0 < M; omega, by simp; omega, ?_⟩
  rw [chs_nxt]
  exact wrs_rd hA (by omega) i (by omega)
theorem Chn.more {S : List (List UInt8)} {C D : List Wt} {M : Nat} {xs : List (Nat × List UInt8)} (h : Chn S C M xs) (hD : ∀ x ∈ xs.map Prod.fst, ∀ c ∈ D, c.1 ≠ 2 * x ∧ c.1 ≠ 2 * x + 1) : Chn S (C ++ D) M xs := by
  refine ⟨h.pos, h.len, h.nodup, fun i x hx => ?_⟩
  obtain ⟨a, b, c, d⟩ := h.ok i x hx
  have hm : x.1 ∈ xs.map Prod.fst := List.mem_map.2 ⟨x, List.mem_of_getElem? hx, rfl⟩
  exact ⟨a, b, c, by rw [rd_no (fun c hc => (hD _ hm c hc).1), rd_no (fun c hc => (hD _ hm c hc).2)]; exact d⟩
theorem Chn.drop {S : List (List UInt8)} {C : List Wt} {M : Nat} {xs : List (Nat × List UInt8)} (h : Chn S C M xs) {i : Nat} (hi : i < xs.length) : Chn S C M (xs.drop i) := by
  refine ⟨by simp; omega, by have := h.len; simp; omega, by rw [List.map_drop]; exact h.nodup.sublist (List.drop_sublist _ _), fun j x hx => ?_⟩
  rw [List.getElem?_drop] at hx
  have := h.ok _ x hx
  have e : nxt (xs.drop i) j = nxt xs (i + j) := by unfold nxt; rw [List.getElem?_drop]; rfl
  rw [e]
  exact this
theorem bread_pg {B L p g gs bm k0 : Nat} {f : Value} {T R : Int} {U : Nat → Bool} {F : List Nat} {S : List (List UInt8)} {C : List Wt} (M : Nat) (xs : List (Nat × List UInt8)) (w : World) (h : Pg B L p g gs bm k0 T R U F S C f w) (hC : C.length ≤ 1000) (hM : S.length / 2 = M) (hx : Chn S C M xs) (a0 : Nat) (ha0 : (xs[0]?.map Prod.fst).getD 0 = a0) (l : List UInt8) (hl : (xs.map (·.2)).flatten = l) (hfl : l.length ≤ 1000000) :
    Calls Try.prog 29 #[.pointer (some ⟨p, 0, none⟩), .int .i64 (a0 : Int)] w fun e w' => e = .returned (.tuple #[.string ⟨l.toArray⟩, .int .i64 0]) ∧ Below w.heap.size w w' := by
  obtain ⟨v, hd⟩ := h.dk
  subst hl
  exact bread_any M xs w h.pb hd hC hM hx a0 ha0 hfl
end Go.Proofs.Ytmgdpchjimlmeaa
