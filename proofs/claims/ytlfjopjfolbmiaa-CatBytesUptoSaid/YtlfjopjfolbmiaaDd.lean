/-
  CatBytes: the answers of both sides, as one.
-/
import Derived.Test.YtlfjopjfolbmiaaDc
import Derived.Test.YtlfjopjfolbmiaaCj
namespace Go.Proofs.Ytlfjopjfolbmiaa
open Go.RowKit
theorem enc_both (next : Int) (vs : List (Int × Int)) (hl : vs.length ≤ 50000) : ∃ (t : ByteArray) (eb : Bool) (ee : Int), (eb = true ∧ ee = 0 ∨ eb = false ∧ ee = 1) ∧ (∀ A c V, Vs V A c vs → Calls Try.prog 9 #[.agg #[.int .i64 next, .slice A vs.length c]] V fun e w' => e = .returned (.tuple #[.string t, .int .i64 ee]) ∧ Below V.heap.size V w') ∧ (∀ A c V, Vs V A c vs → Calls Try.prog 10 #[.agg #[.int .i64 next, .slice A vs.length c]] V fun e w' => e = .returned (.tuple #[.string t, .bool eb]) ∧ Below V.heap.size V w') := by
  have hl' : vs.length ≤ 1000000 := by omega
  cases hr : rightB next vs
  · exact ⟨⟨#[]⟩, false, 1, .inr ⟨rfl, rfl⟩, fun A c V hV => encode_no next A c vs V hV hl' hr, fun A c V hV => rencode_no next A c vs V hV hl' hr⟩
  · exact ⟨⟨(encL next vs).toArray⟩, true, 0, .inl ⟨rfl, rfl⟩, fun A c V hV => encode_yes next A c vs V hV hr, fun A c V hV => rencode_yes next A c vs V hV hr⟩
theorem dec_both (S : List UInt8) (hS : S.length ≤ 1048576) : ∃ (N2 : Int) (L2 : List (Int × Int)) (db : Bool) (de : Int), (db = true ∧ de = 0 ∨ db = false ∧ de = 2) ∧ L2.length ≤ 100000 ∧ (∀ V, Calls Try.prog 12 #[.string ⟨S.toArray⟩] V fun e w' => ∃ A' c', e = .returned (.tuple #[.agg #[.int .i64 N2, .slice A' L2.length c'], .int .i64 de]) ∧ Vs w' A' c' L2 ∧ Below V.heap.size V w') ∧ (∀ V, Calls Try.prog 13 #[.string ⟨S.toArray⟩] V fun e w' => ∃ A' c', e = .returned (.tuple #[.agg #[.int .i64 N2, .slice A' L2.length c'], .bool db]) ∧ Vs w' A' c' L2 ∧ Below V.heap.size V w') := by
  have none_ : (∀ V, Calls Try.prog 12 #[.string ⟨S.toArray⟩] V fun e w' => e = .returned (.tuple #[.agg #[.int .i64 0, .slice none 0 0], .int .i64 2]) ∧ Below V.heap.size V w') → (∀ V, Calls Try.prog 13 #[.string ⟨S.toArray⟩] V fun e w' => e = .returned (.tuple #[.agg #[.int .i64 0, .slice none 0 0], .bool false]) ∧ Below V.heap.size V w') →
      ∃ (N2 : Int) (L2 : List (Int × Int)) (db : Bool) (de : Int), (db = true ∧ de = 0 ∨ db = false ∧ de = 2) ∧ L2.length ≤ 100000 ∧ (∀ V, Calls Try.prog 12 #[.string ⟨S.toArray⟩] V fun e w' => ∃ A' c', e = .returned (.tuple #[.agg #[.int .i64 N2, .slice A' L2.length c'], .int .i64 de]) ∧ Vs w' A' c' L2 ∧ Below V.heap.size V w') ∧ (∀ V, Calls Try.prog 13 #[.string ⟨S.toArray⟩] V fun e w' => ∃ A' c', e = .returned (.tuple #[.agg #[.int .i64 N2, .slice A' L2.length c'], .bool db]) ∧ Vs w' A' c' L2 ∧ Below V.heap.size V w') := fun h1 h2 =>
    ⟨0, [], false, 2, .inr ⟨rfl, rfl⟩, by simp, fun V => (h1 V).mono fun e w' ⟨a, b⟩ => ⟨none, 0, a, Vs.nil_ _ _, b⟩, fun V => (h2 V).mono fun e w' ⟨a, b⟩ => ⟨none, 0, a, Vs.nil_ _ _, b⟩⟩
  by_cases h4 : S.length < 4
  · exact none_ (fun V => decode_few S V h4) (fun V => rdecode_few S V h4)
  · by_cases h6 : (S.length - 4) % 6 ≠ 0
    · exact none_ (fun V => decode_rem S V (by omega) (by omega) h6) (fun V => rdecode_rem S V (by omega) (by omega) h6)
    · have hm : S.length = 4 + 6 * ((S.length - 4) / 6) := by omega
      cases hr : rightB (rd4 S : Nat) (decL S ((S.length - 4) / 6))
      · exact none_ (fun V => (decode_any S _ V hm (by omega)).mono fun e w' ⟨_, h, b⟩ => ⟨h hr, b⟩) (fun V => (rdecode_any S _ V hm (by omega)).mono fun e w' ⟨_, h, b⟩ => ⟨h hr, b⟩)
      · have hl := (right_all hr).2.2.1
        exact ⟨(rd4 S : Nat), decL S ((S.length - 4) / 6), true, 0, .inl ⟨rfl, rfl⟩, by omega,
          fun V => (decode_any S _ V hm (by omega)).mono fun e w' ⟨h, _, b⟩ => (h hr).elim fun A hA => hA.elim fun c hc => ⟨A, c, hc.1, hc.2, b⟩,
          fun V => (rdecode_any S _ V hm (by omega)).mono fun e w' ⟨h, _, b⟩ => (h hr).elim fun A hA => hA.elim fun c hc => ⟨A, c, hc.1, hc.2, b⟩⟩
end Go.Proofs.Ytlfjopjfolbmiaa
