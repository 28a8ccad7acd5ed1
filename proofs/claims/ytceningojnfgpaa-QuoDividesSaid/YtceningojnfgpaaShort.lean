/-
  nat.short: a list without the noughts at its end.
-/
import Derived.Test.YtceningojnfgpaaMem
namespace Go.Proofs.Ytceningojnfgpaa
open Go.RowKit
theorem slice_len {A : Option Addr} {n m c : Nat} (h : n = m) : Value.slice A n c = Value.slice A m c := by rw [h]
theorem short_fin {w : World} {A : Option Addr} {c : Nat} {xs : List Nat} {k : Nat} (h : Dg w A c xs) (hk : k ≤ xs.length) (hz : ∀ j, k ≤ j → j < xs.length → xs[j]?.getD 0 = 0) (hl : 0 < k → xs[k - 1]?.getD 0 ≠ 0) :
    ∃ A' c', Ending.returned (.slice A k c) = .returned (.slice A' (digs (val xs)).length c') ∧ Dg w A' c' (digs (val xs)) ∧ w = w := by
  have e := digs_take h.2.1 hk hz hl
  have el : (digs (val xs)).length = k := by rw [← e]; simp; omega
  refine ⟨A, c, by rw [el], ⟨by have := h.1; omega, ok_digs _, fun h0 => ?_⟩, rfl⟩
  obtain ⟨b, off, e1, hb, hc⟩ := h.2.2 (by omega)
  refine ⟨b, off, e1, hb, fun j hj => ?_⟩
  rw [hc j (by omega), ← e, List.getElem?_take, if_pos (by omega)]
set_option maxHeartbeats 400000 in
theorem short_any (A : Option Addr) (c : Nat) (xs : List Nat) (w : World) (h : Dg w A c xs) (hl : xs.length ≤ 16777216) :
    Calls Try.prog 40 #[.slice A xs.length c] w fun e w' => ∃ A' c', e = .returned (.slice A' (digs (val xs)).length c') ∧ Dg w A' c' (digs (val xs)) ∧ w = w' := by
  go_enter Try.func40, Try.ntmps40
  go_wp2
  go_loop [3] (fun n => ∃ k : Nat, k ≤ xs.length ∧ n = .int .i64 k ∧ Hid (∀ j, k ≤ j → j < xs.length → xs[j]?.getD 0 = 0)) (fun n => (intOf n).toNat)
  case atStart => exact ⟨xs.length, Nat.le_refl _, rfl, fun j h1 h2 => by omega⟩
  case round =>
    obtain ⟨k, hk, rfl, hz⟩ := hrel
    by_cases hk0 : k = 0
    · subst hk0
      go_wp2
      go_ret
      exact short_fin h hk hz (fun h => absurd h (by omega))
    · obtain ⟨b, off, hA, hb, hcell⟩ := h.2.2 (by omega)
      have hc1 := hcell (k - 1) (by omega)
      have hkc : k ≤ c := by have := h.1; omega
      have hk1 : 0 < k := by omega
      by_cases hx : xs[k - 1]?.getD 0 = 0
      · have hx' : ((xs[k - 1]?.getD 0 : Nat) == (0 : Int)) = true := by rw [hx]; rfl
        have HX := Lib.hid hx
        have HA := Lib.hid hA
        clear hcell hx
        subst hA
        go_wp2
        go_round
        case rel => 
          refine ⟨k - 1, by omega, by go_num, fun j h1 h2 => ?_⟩
          by_cases hj : j = k - 1
          · subst hj; exact HX.out
          · exact hz j (by omega) h2
        case measure => simp [intOf]; omega
      · have hx' : ((xs[k - 1]?.getD 0 : Nat) == (0 : Int)) = false := by simp; omega
        have HX := Lib.hid hx
        clear hcell hx
        subst hA
        go_wp2
        go_ret
        exact short_fin h hk hz (fun _ => HX.out)
end Go.Proofs.Ytceningojnfgpaa
