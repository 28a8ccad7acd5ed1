/-
  A list's bytes are read as it was, what is read is written as it stood; Decode by one word.
-/
import Derived.Test.YtmgdpchjimlmeaaDbM
import Derived.Test.YtmgdpchjimlmeaaCzM
namespace Go.Proofs.Ytmgdpchjimlmeaa.Cat
open Go.RowKit
set_option linter.unusedSimpArgs false
set_option linter.unusedVariables false
theorem be4 (n : Nat) : be 4 n = [UInt8.ofNat (n / 16777216), UInt8.ofNat (n / 65536), UInt8.ofNat (n / 256), UInt8.ofNat n] := by
  unfold be
  simp [List.range_succ]
theorem be2 (n : Nat) : be 2 n = [UInt8.ofNat (n / 256), UInt8.ofNat n] := by
  unfold be
  simp [List.range_succ]
theorem rd4_be {n : Nat} (h : n < 4294967296) (r : List UInt8) : rd4 (be 4 n ++ r) = n := by
  rw [be4]
  unfold rd4 at8
  simp [UInt8.toNat_ofNat']
  omega
theorem ver_enc {v : Int × Int} (h1 : 0 ≤ v.1) (h2 : v.1 < 4294967296) (h3 : 0 ≤ v.2) (h4 : v.2 < 65536) (r : List UInt8) : verL (encV v ++ r) = v := by
  obtain ⟨a, b⟩ := v
  obtain ⟨a, rfl⟩ := Int.eq_ofNat_of_zero_le h1
  obtain ⟨b, rfl⟩ := Int.eq_ofNat_of_zero_le h3
  dsimp only at h2 h4
  unfold verL encV
  rw [List.append_assoc, rd4_be (by omega), be4, be2]
  unfold at8
  simp [UInt8.toNat_ofNat']
  omega
theorem of_toNat8 {a : UInt8} {n : Nat} (h : n % 256 = a.toNat) : UInt8.ofNat n = a := by
  apply UInt8.toNat_inj.1
  rw [UInt8.toNat_ofNat']
  exact h
theorem lt8 (a : UInt8) : a.toNat < 256 := a.toNat_lt
theorem enc_ver {L : List UInt8} (h : 6 ≤ L.length) : encV (verL L) = L.take 6 := by
  match L, h with
  | a :: b :: c :: d :: e :: f :: r, _ =>
    have ha := lt8 a
    have hb := lt8 b
    have hc := lt8 c
    have hd := lt8 d
    have he := lt8 e
    have hf := lt8 f
    unfold verL encV rd4 at8
    simp only [List.getElem?_cons_zero, List.getElem?_cons_succ, Option.getD_some, Int.toNat_natCast]
    rw [be4, be2, of_toNat8 (a := a) (by omega), of_toNat8 (a := b) (by omega), of_toNat8 (a := c) (by omega), of_toNat8 (a := d) (by omega), of_toNat8 (a := e) (by omega), of_toNat8 (a := f) (by omega)]
    rfl
theorem be_rd {L : List UInt8} (h : 4 ≤ L.length) : be 4 (rd4 L) = L.take 4 := by
  obtain ⟨a, b, c, d, r, rfl⟩ := take_cons4 h
  have ha := lt8 a
  have hb := lt8 b
  have hc := lt8 c
  have hd := lt8 d
  unfold rd4 at8
  simp only [List.getElem?_cons_zero, List.getElem?_cons_succ, Option.getD_some]
  rw [be4, of_toNat8 (a := a) (by omega), of_toNat8 (a := b) (by omega), of_toNat8 (a := c) (by omega), of_toNat8 (a := d) (by omega)]
  rfl
theorem body_enc : ∀ (m : Nat) (B : List UInt8), B.length = 6 * m → ((List.range m).map fun j => verL (B.drop (6 * j))).flatMap encV = B
  | 0, B, h => by rw [show B = [] from List.eq_nil_of_length_eq_zero (by omega)]; rfl
  | m + 1, B, h => by
    have ih := body_enc m (B.drop 6) (by rw [List.length_drop]; omega)
    rw [List.range_succ_eq_map, List.map_cons, List.map_map, List.flatMap_cons]
    have e : (List.range m).map ((fun j => verL (B.drop (6 * j))) ∘ Nat.succ) = (List.range m).map fun j => verL ((B.drop 6).drop (6 * j)) := by
      apply List.map_congr_left
      intro j _
      simp only [Function.comp, List.drop_drop]
      rw [show 6 + 6 * j = 6 * Nat.succ j by omega]
    rw [e, ih, Nat.mul_zero, List.drop_zero, enc_ver (by omega), List.take_append_drop]
theorem enc_dec {S : List UInt8} {m : Nat} (h : S.length = 4 + 6 * m) : encL (rd4 S : Nat) (decL S m) = S := by
  unfold encL
  rw [Int.toNat_natCast, be_rd (by omega)]
  have e : decL S m = (List.range m).map fun j => verL ((S.drop 4).drop (6 * j)) := by
    unfold decL
    apply List.map_congr_left
    intro j _
    rw [List.drop_drop]
  rw [e, body_enc m (S.drop 4) (by rw [List.length_drop]; omega), List.take_append_drop]
theorem dec_body : ∀ (vs : List (Int × Int)), (∀ v ∈ vs, 0 ≤ v.1 ∧ v.1 < 4294967296 ∧ 0 ≤ v.2 ∧ v.2 < 65536) → ((List.range vs.length).map fun j => verL ((vs.flatMap encV).drop (6 * j))) = vs
  | [], _ => rfl
  | v :: vs, h => by
    have ih := dec_body vs (fun u hu => h u (List.mem_cons_of_mem _ hu))
    obtain ⟨a, b, c, d⟩ := h v List.mem_cons_self
    rw [List.length_cons, List.range_succ_eq_map, List.map_cons, List.map_map, List.flatMap_cons, Nat.mul_zero, List.drop_zero, ver_enc a b c d]
    have e : (List.range vs.length).map ((fun j => verL ((encV v ++ vs.flatMap encV).drop (6 * j))) ∘ Nat.succ) = (List.range vs.length).map fun j => verL ((vs.flatMap encV).drop (6 * j)) := by
      apply List.map_congr_left
      intro j _
      simp only [Function.comp]
      rw [show 6 * Nat.succ j = (encV v).length + 6 * j by rw [encV_len]; omega, ← List.drop_drop, List.drop_left]
    rw [e, ih]
theorem dec_enc {next : Int} {vs : List (Int × Int)} (hr : rightB next vs = true) : ((rd4 (encL next vs) : Nat) : Int) = next ∧ decL (encL next vs) vs.length = vs := by
  obtain ⟨a, b, c, d⟩ := right_all hr
  have e : decL (encL next vs) vs.length = (List.range vs.length).map fun j => verL ((vs.flatMap encV).drop (6 * j)) := by
    unfold decL encL
    apply List.map_congr_left
    intro j _
    have e4 : (be 4 next.toNat ++ vs.flatMap encV).drop 4 = vs.flatMap encV := List.drop_left' (by rw [be_len])
    rw [← List.drop_drop, e4]
  refine ⟨?_, ?_⟩
  · unfold encL
    rw [rd4_be (by omega)]
    omega
  · rw [e]
    refine dec_body vs fun v hv => ?_
    have h := d v hv
    have h2 : 0 ≤ v.2 ∧ v.2 < 65536 := by
      have h3 := h.2.2
      unfold rootB at h3
      simp at h3
      omega
    exact ⟨by omega, by omega, h2.1, h2.2⟩
/-- Decode, over any bytes. -/
theorem dec_prog (S : List UInt8) (hS : S.length ≤ 1048576) : ∃ (N : Int) (L : List (Int × Int)) (de : Int), (de = 0 ∧ rightB N L = true ∧ encL N L = S ∨ de = 2 ∧ N = 0 ∧ L = []) ∧ L.length ≤ 12 ∧ ∀ V, Calls Try.prog 9 #[.string ⟨S.toArray⟩] V fun e w' => ∃ A' c', e = .returned (.tuple #[.agg #[.int .i64 N, .slice A' L.length c'], .int .i64 de]) ∧ Vs w' A' c' L ∧ Below V.heap.size V w' := by
  have none_ : (∀ V, Calls Try.prog 9 #[.string ⟨S.toArray⟩] V fun e w' => e = .returned (.tuple #[.agg #[.int .i64 0, .slice none 0 0], .int .i64 2]) ∧ Below V.heap.size V w') →
      ∃ (N : Int) (L : List (Int × Int)) (de : Int), (de = 0 ∧ rightB N L = true ∧ encL N L = S ∨ de = 2 ∧ N = 0 ∧ L = []) ∧ L.length ≤ 12 ∧ ∀ V, Calls Try.prog 9 #[.string ⟨S.toArray⟩] V fun e w' => ∃ A' c', e = .returned (.tuple #[.agg #[.int .i64 N, .slice A' L.length c'], .int .i64 de]) ∧ Vs w' A' c' L ∧ Below V.heap.size V w' := fun h1 =>
    ⟨0, [], 2, .inr ⟨rfl, rfl, rfl⟩, by simp, fun V => (h1 V).mono fun e w' ⟨a, b⟩ => ⟨none, 0, a, Vs.nil_ _ _, b⟩⟩
  by_cases h4 : S.length < 4
  · exact none_ (fun V => decode_few S V h4)
  · by_cases h6 : (S.length - 4) % 6 ≠ 0
    · exact none_ (fun V => decode_rem S V (by omega) (by omega) h6)
    · have hm : S.length = 4 + 6 * ((S.length - 4) / 6) := by omega
      cases hr : rightB (rd4 S : Nat) (decL S ((S.length - 4) / 6))
      · exact none_ (fun V => (decode_any S _ V hm (by omega)).mono fun e w' ⟨_, h, b⟩ => ⟨h hr, b⟩)
      · have hl := (right_all hr).2.2.1
        exact ⟨(rd4 S : Nat), decL S ((S.length - 4) / 6), 0, .inl ⟨rfl, hr, enc_dec hm⟩, hl,
          fun V => (decode_any S _ V hm (by omega)).mono fun e w' ⟨h, _, b⟩ => (h hr).elim fun A hA => hA.elim fun c hc => ⟨A, c, hc.1, hc.2, b⟩⟩
/-- Decode, over a list's own bytes. -/
theorem dec_own {next : Int} {vs : List (Int × Int)} (hr : rightB next vs = true) (V : World) : Calls Try.prog 9 #[.string ⟨(encL next vs).toArray⟩] V fun e w' => ∃ A c, e = .returned (.tuple #[.agg #[.int .i64 next, .slice A vs.length c], .int .i64 0]) ∧ Vs w' A c vs ∧ Below V.heap.size V w' := by
  obtain ⟨h1, h2⟩ := dec_enc hr
  have hl := (right_all hr).2.2.1
  have h := decode_any (encL next vs) vs.length V (enc_len next vs) (by omega)
  rw [h1, h2] at h
  exact h.mono fun e w' ⟨h, _, b⟩ => (h hr).elim fun A hA => hA.elim fun c hc => ⟨A, c, hc.1, hc.2, b⟩
end Go.Proofs.Ytmgdpchjimlmeaa.Cat
