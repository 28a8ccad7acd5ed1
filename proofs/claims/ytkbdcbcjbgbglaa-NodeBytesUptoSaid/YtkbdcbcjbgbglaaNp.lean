/-
  What is written is read as it was: plain words.
-/
import Derived.Test.YtkbdcbcjbgbglaaNm
namespace Go.Proofs.Ytkbdcbcjbgbglaa
open Go.RowKit
set_option linter.unusedVariables false
theorem rd_b2 {d : Int} (h0 : 0 ≤ d) (h1 : d < 65536) : ((rdB (b2 d) : Nat) : Int) = d := by
  obtain ⟨n, rfl⟩ := Int.eq_ofNat_of_zero_le h0
  have hn : n < 65536 := by omega
  simp only [b2, rdB, List.foldl_cons, List.foldl_nil, Int.toNat_natCast, UInt8.toNat_ofNat']
  omega
theorem b2_len (d : Int) : (b2 d).length = 2 := rfl
theorem pents_ents : ∀ (ps : List (List UInt8 × Int)), (∀ p ∈ ps, p.1.length ≤ 16 ∧ 0 ≤ p.2 ∧ p.2 < 65536) → pents (ps.flatMap entL) = some ps
  | [], _ => by rw [List.flatMap_nil, pents]
  | p :: r, h => by
    obtain ⟨hl, h0, h1⟩ := h p (by simp)
    have ih := pents_ents r (fun q hq => h q (by simp [hq]))
    have e : (p :: r).flatMap entL = UInt8.ofNat p.1.length :: (p.1 ++ (b2 p.2 ++ r.flatMap entL)) := by
      rw [List.flatMap_cons]; unfold entL; simp
    have ht : (UInt8.ofNat p.1.length).toNat = p.1.length := by rw [UInt8.toNat_ofNat']; omega
    rw [e, pents, ht, if_neg (by simp only [List.length_append, b2_len]; omega)]
    have d1 : (p.1 ++ (b2 p.2 ++ r.flatMap entL)).drop (p.1.length + 2) = r.flatMap entL := by
      rw [← List.drop_drop, List.drop_left' rfl, List.drop_left' (b2_len _)]
    have d2 : (p.1 ++ (b2 p.2 ++ r.flatMap entL)).take p.1.length = p.1 := List.take_left' rfl
    have d3 : ((p.1 ++ (b2 p.2 ++ r.flatMap entL)).drop p.1.length).take 2 = b2 p.2 := by rw [List.drop_left' rfl, List.take_left' (b2_len _)]
    rw [d1, d2, d3, ih, rd_b2 h0 h1]
    rfl
theorem zip_mem {ks : List (List UInt8)} {ds : List Int} {p : List UInt8 × Int} (h : p ∈ ks.zip ds) : p.1 ∈ ks ∧ p.2 ∈ ds := by
  obtain ⟨a, b⟩ := p
  exact ⟨(List.of_mem_zip h).1, (List.of_mem_zip h).2⟩
theorem dec_enc {lf : Bool} {ks : List (List UInt8)} {ds : List Int} (hr : rightB lf ks ds = true) : decA (encL lf ks ds) = some (lf, ks, ds) := by
  obtain ⟨r1, r2, r3, _, _, _, _⟩ := right_facts hr
  have hS : decS (encL lf ks ds) = some (lf, ks, ds) := by
    cases lf
    · have hd : ds.length = ks.length + 1 := by simpa using r1
      cases ds with
      | nil => simp at hd
      | cons d0 r =>
        have hd2 : r.length = ks.length := by simpa using hd
        have hd0 := r3 d0 (by simp)
        have hp := pents_ents (ks.zip r) (fun p hp => by
          obtain ⟨h1, h2⟩ := zip_mem hp
          have := r2 _ h1; have := r3 _ (List.mem_cons_of_mem _ h2); omega)
        have e : encL false ks (d0 :: r) = 0 :: (b2 d0 ++ (ks.zip r).flatMap entL) := rfl
        rw [e]
        simp only [decS]
        rw [if_neg (by decide), if_neg (by simp only [List.length_append, b2_len]; omega), List.drop_left' (b2_len _), List.take_left' (b2_len _), hp, rd_b2 (by omega) (by omega)]
        simp only [Option.map_some]
        rw [List.map_fst_zip (by omega), List.map_snd_zip (by omega)]
    · have hd : ds.length = ks.length := by simpa using r1
      have hp := pents_ents (ks.zip ds) (fun p hp => by
        obtain ⟨h1, h2⟩ := zip_mem hp
        have := r2 _ h1; have := r3 _ h2; omega)
      have e : encL true ks ds = 1 :: (ks.zip ds).flatMap entL := rfl
      rw [e]
      simp only [decS, if_true]
      rw [hp]
      simp only [Option.map_some]
      rw [List.map_fst_zip (by omega), List.map_snd_zip (by omega)]
  unfold decA
  rw [hS]
  simp [okB, hr]
theorem zip_sum : ∀ (ks : List (List UInt8)) (ds : List Int), ds.length = ks.length → ((ks.zip ds).map (fun p => p.1.length + 3)).sum = sumN ks + 2 * ds.length
  | [], [], _ => rfl
  | k :: r, d :: t, h => by
    have := zip_sum r t (by simpa using h)
    simp only [List.zip_cons_cons, List.map_cons, List.sum_cons, this, sumN, List.length_cons]
    simp only [sumN] at this
    omega
  | [], d :: t, h => by simp at h
  | k :: r, [], h => by simp at h
theorem enc_len {lf : Bool} {ks : List (List UInt8)} {ds : List Int} (hr : rightB lf ks ds = true) : (encL lf ks ds).length = sizeN ks ds := by
  obtain ⟨r1, _⟩ := right_facts hr
  unfold sizeN
  cases lf
  · have hd : ds.length = ks.length + 1 := by simpa using r1
    cases ds with
    | nil => simp at hd
    | cons d0 r =>
      have hd2 : r.length = ks.length := by simpa using hd
      have e : encL false ks (d0 :: r) = 0 :: (b2 d0 ++ (ks.zip r).flatMap entL) := rfl
      rw [e, List.length_cons, List.length_append, b2_len, ents_len, zip_sum ks r hd2]
      simp only [List.length_cons]
      omega
  · have hd : ds.length = ks.length := by simpa using r1
    have e : encL true ks ds = 1 :: (ks.zip ds).flatMap entL := rfl
    rw [e, List.length_cons, ents_len, zip_sum ks ds hd]
    omega
theorem sumN_le {ks : List (List UInt8)} {M : Nat} (h : ∀ x ∈ ks, x.length ≤ M) : sumN ks ≤ ks.length * (M + 1) := by
  induction ks with
  | nil => simp [sumN]
  | cons k r ih =>
    have h1 := h k (by simp)
    have h2 := ih (fun x hx => h x (by simp [hx]))
    simp only [sumN, List.map_cons, List.sum_cons, List.length_cons] at h2 ⊢
    rw [Nat.add_mul]
    omega
theorem few_size {ks : List (List UInt8)} {ds : List Int} (h : ∀ x ∈ ks, x.length ≤ 1048576) : sizeN (ks.take 12) (ds.take 13) < 4611686018427387904 := by
  have h1 := sumN_le (ks := ks.take 12) (M := 1048576) (fun x hx => h x (List.mem_of_mem_take hx))
  have h2 : (ks.take 12).length ≤ 12 := by rw [List.length_take]; omega
  have h3 : (ds.take 13).length ≤ 13 := by rw [List.length_take]; omega
  have h4 : (ks.take 12).length * (1048576 + 1) ≤ 12 * (1048576 + 1) := Nat.mul_le_mul_right _ h2
  unfold sizeN
  omega
theorem decA_some {S : List UInt8} {lf : Bool} {ks : List (List UInt8)} {ds : List Int} (h : decA S = some (lf, ks, ds)) : rightB lf ks ds = true ∧ encL lf ks ds = S := by
  unfold decA at h
  obtain ⟨_, h2⟩ := Option.filter_eq_some_iff.1 h
  unfold okB at h2
  simpa using h2
end Go.Proofs.Ytkbdcbcjbgbglaa
