/-
  Numbers one behind the other: plain.
-/
import Derived.Test.YtlfjopjfolbmiaaCk
namespace Go.Proofs.Ytlfjopjfolbmiaa
/-- The numbers s + 1, s + 2, .. -/
def seqB (s : Nat) : List (Int × Int) → Prop
  | [] => True
  | v :: r => v.1 = (s : Int) + 1 ∧ rootB v.2 = true ∧ seqB (s + 1) r
theorem chain_seq : ∀ {vs : List (Int × Int)} {s : Nat} {next : Int}, seqB s vs → (s : Int) + vs.length < next → chainB next s vs = true
  | [], _, _, _, _ => rfl
  | v :: r, s, next, h, hn => by
    obtain ⟨h1, h2, h3⟩ := h
    have ih := chain_seq (next := next) h3 (by simp at hn; omega)
    unfold chainB
    rw [h2, h1, decide_eq_true (by omega), decide_eq_true (by simp at hn; omega)]
    simpa using ih
theorem seq_snoc : ∀ {vs : List (Int × Int)} {s : Nat} {r : Int}, seqB s vs → rootB r = true → seqB s (vs ++ [((s : Int) + vs.length + 1, r)])
  | [], s, r, _, hr => ⟨by simp, hr, trivial⟩
  | v :: t, s, r, h, hr => by
    obtain ⟨h1, h2, h3⟩ := h
    have := seq_snoc h3 hr
    refine ⟨h1, h2, ?_⟩
    rw [show ((s : Int) + (v :: t).length + 1) = (((s + 1 : Nat) : Int) + t.length + 1) by simp; omega]
    exact this
theorem seq_at : ∀ {vs : List (Int × Int)} {s j : Nat}, seqB s vs → j < vs.length → (at2 vs j).1 = (s : Int) + j + 1
  | [], _, _, _, h => by simp at h
  | v :: r, s, j, h, hj => by
    obtain ⟨h1, _, h3⟩ := h
    cases j with
    | zero => simpa [at2] using h1
    | succ j =>
      have := seq_at h3 (j := j) (by simpa using hj)
      have e : at2 (v :: r) (j + 1) = at2 r j := by unfold at2; simp
      rw [e, this]
      omega
theorem idx_seq : ∀ {vs : List (Int × Int)} {s j k : Nat}, seqB s vs → j < vs.length → idxOf ((s : Int) + j + 1) vs k = some (k + j)
  | [], _, _, _, _, h => by simp at h
  | v :: r, s, j, k, h, hj => by
    obtain ⟨h1, _, h3⟩ := h
    unfold idxOf
    cases j with
    | zero => rw [if_pos (by rw [h1]; simp)]; rfl
    | succ j =>
      rw [if_neg (by rw [h1]; omega)]
      have := idx_seq (k := k + 1) h3 (j := j) (by simpa using hj)
      rw [show (s : Int) + (j + 1 : Nat) + 1 = ((s + 1 : Nat) : Int) + j + 1 by omega, this]
      congr 1
      omega
theorem idx_none {n : Int} : ∀ {vs : List (Int × Int)} {k : Nat}, (∀ v ∈ vs, v.1 ≠ n) → idxOf n vs k = none
  | [], _, _ => rfl
  | v :: r, k, h => by
    unfold idxOf
    rw [if_neg (h v (by simp))]
    exact idx_none fun u hu => h u (by simp [hu])
theorem mem_at2 {vs : List (Int × Int)} {v : Int × Int} (h : v ∈ vs) : ∃ j, j < vs.length ∧ v = at2 vs j := by
  obtain ⟨j, hj, e⟩ := List.getElem_of_mem h
  exact ⟨j, hj, by unfold at2; rw [List.getElem?_eq_getElem hj]; exact e.symm⟩
theorem cut_len {vs : List (Int × Int)} {i : Nat} (h : i < vs.length) : (cutAt vs i).length = vs.length - 1 := by
  unfold cutAt
  rw [List.length_append, List.length_take, List.length_drop]
  omega
theorem cut_idx {vs : List (Int × Int)} {i : Nat} (hs : seqB 0 vs) (h : i < vs.length) : idxOf ((i : Int) + 1) (cutAt vs i) 0 = none := by
  refine idx_none fun v hv => ?_
  unfold cutAt at hv
  rcases List.mem_append.1 hv with h1 | h1
  · obtain ⟨j, hj, rfl⟩ := mem_at2 h1
    have hji : j < i := by simp at hj; omega
    have e2 : at2 (vs.take i) j = at2 vs j := by unfold at2; rw [List.getElem?_take, if_pos hji]
    rw [e2, seq_at hs (by omega)]
    omega
  · obtain ⟨j, hj, rfl⟩ := mem_at2 h1
    rw [List.length_drop] at hj
    have e2 : at2 (vs.drop (i + 1)) j = at2 vs (i + 1 + j) := by unfold at2; rw [List.getElem?_drop]
    rw [e2, seq_at hs (by omega)]
    omega
theorem chain_less {next : Int} {vs : List (Int × Int)} {a b : Int} (h : chainB next b vs = true) (hab : a < b) : chainB next a vs = true := by
  cases vs with
  | nil => rfl
  | cons v r =>
    unfold chainB at h ⊢
    simp only [Bool.and_eq_true, decide_eq_true_eq] at h ⊢
    exact ⟨⟨⟨by omega, h.1.1.2⟩, h.1.2⟩, h.2⟩
theorem chain_cut {next : Int} : ∀ {vs : List (Int × Int)} {last : Int} {i : Nat}, chainB next last vs = true → chainB next last (cutAt vs i) = true
  | [], _, i, _ => by unfold cutAt; simp [chainB]
  | v :: r, last, 0, h => by
    have e : cutAt (v :: r) 0 = r := by unfold cutAt; simp
    rw [e]
    unfold chainB at h
    simp only [Bool.and_eq_true, decide_eq_true_eq] at h
    exact chain_less h.2 h.1.1.1
  | v :: r, last, i + 1, h => by
    have e : cutAt (v :: r) (i + 1) = v :: cutAt r i := by unfold cutAt; simp
    rw [e]
    unfold chainB at h ⊢
    simp only [Bool.and_eq_true, decide_eq_true_eq] at h ⊢
    exact ⟨h.1, chain_cut h.2⟩
theorem right_seq {vs : List (Int × Int)} (hs : seqB 0 vs) (hl : vs.length ≤ 12) : rightB ((vs.length : Int) + 1) vs = true := by
  unfold rightB
  have := chain_seq (next := (vs.length : Int) + 1) hs (by omega)
  rw [decide_eq_true (by omega), decide_eq_true (by omega), decide_eq_true hl]
  simpa using this
theorem right_cut {vs : List (Int × Int)} {i : Nat} (hs : seqB 0 vs) (hl : vs.length ≤ 12) (hi : i < vs.length) : rightB ((vs.length : Int) + 1) (cutAt vs i) = true := by
  unfold rightB
  have := chain_cut (i := i) (chain_seq (next := (vs.length : Int) + 1) hs (by omega))
  rw [decide_eq_true (by omega), decide_eq_true (by omega), decide_eq_true (by rw [cut_len hi]; omega)]
  simpa using this
theorem cut_last {vs : List (Int × Int)} {i : Nat} (h : i + 1 < vs.length) : at2 (cutAt vs i) (vs.length - 2) = at2 vs (vs.length - 1) := by
  unfold cutAt at2
  rw [List.getElem?_append_right (by rw [List.length_take]; omega), List.length_take, List.getElem?_drop]
  congr 2
  omega
end Go.Proofs.Ytlfjopjfolbmiaa
