/-
  The reference's own text (astrolaberef01): at, Trim.
-/
import Derived.Test.YtceningojnfgpaaRow
import Derived.Maps.AppendAt
import Derived.Deep.AppendLies
namespace Go.Proofs.Ytceningojnfgpaa
open Go.RowKit
set_option maxHeartbeats 400000 in
theorem rat_any (A : Option Addr) (c : Nat) (xs : List Nat) (i : Nat) (w : World) (h : Dg w A c xs) (hi : i ≤ 9223372036854775807) :
    Calls Try.prog 53 #[.slice A xs.length c, .int .i64 i] w fun e w' => e = .returned (.int .u64 (xs[i]?.getD 0 : Nat)) ∧ w = w' := by
  by_cases h1 : xs.length ≤ i
  · have d0 : decide (xs.length ≤ i) = true := by simp [h1]
    have HF : Hid ((0 : Int) = ((xs[i]?.getD 0 : Nat) : Int)) := by rw [List.getElem?_eq_none h1]; rfl
    clear h1
    go_enter Try.func53, Try.ntmps53
    go_wp2
    go_ret
    exact ⟨ret_i HF.out, rfl⟩
  · have d0 : decide (xs.length ≤ i) = false := by simp; omega
    obtain ⟨b, off, hA, hb, hcx⟩ := h.2.2 (by omega)
    have hx := hcx i (by omega)
    have hX := getD_lt h.2.1 i
    have hlt : i < xs.length := by omega
    generalize xs[i]?.getD 0 = x at *
    clear hcx h1 h
    subst hA
    go_enter Try.func53, Try.ntmps53
    go_wp2
    go_ret
    exact ⟨rfl, rfl⟩
/-- append(out, xs...) where xs has no array and no elements. -/
theorem wpList_append_nil {P : Program} {w : World} {ops : Array Oper} {rest : List Oper} {o : Oper} {a : Act} {Q : Exit → Act → World → Prop} (hgd : o.guard = none) (s x : Operand) (t : TypeId)
    (ho : o.op = .call { callee := .builtin .append, args := #[s, x], argTypes := #[t, t] }) (e : TypeId) (i : TypeInfo) (ht : P.underlying t = some (.slice e)) (hi : P.info? e = some i)
    (c : Nat) (hs : a.eval s = .slice none 0 0) (hx : a.eval x = .slice none 0 c) (h : wpList P ops Q rest (a.put o.dst (.slice none 0 0)) w) : wpList P ops Q (o :: rest) a w := by
  refine wpList_plain hgd fun K hK => ?_
  have hrun : (Builtin.append_ #[t, t] o.type #[.slice none 0 0, .slice none 0 c]).run P w = .ok (.slice none 0 0) w := by
    simp [Builtin.append_, run_underlying ht, sizeOf, typeInfo, hi, Builtin.lenOf, Builtin.firstCells]
  unfold Oper.wp
  simp [execOp, ho, resolve, invoke, builtin, hs, hx, hrun, Result.andThen]
  exact hK _ _ h
theorem rtrim_eq {xs : List Nat} {k : Nat} (hk32 : ok32 xs) (hk : k ≤ xs.length) (hz : ∀ j, k ≤ j → j < xs.length → xs[j]?.getD 0 = 0) (hl : 0 < k → xs[k - 1]?.getD 0 ≠ 0) : xs.take k = digs (val xs) := digs_take hk32 hk hz hl
set_option maxHeartbeats 2000000 in
theorem rtrim_f (A : Option Addr) (c : Nat) (xs : List Nat) (w : World) (h : Dg w A c xs) (hl : xs.length ≤ 16777216) :
    Calls Try.prog 29 #[.slice A xs.length c] w fun e w' => ∃ A' c', e = .returned (.slice A' (digs (val xs)).length c') ∧ Dg w' A' c' (digs (val xs)) ∧ Below w.heap.size w w' ∧ Fr w.heap.size A' := by
  obtain ⟨i0, hi, hz0, hz1, hz2⟩ := info_parts elem_info
  rcases A with _ | A
  · have h0 : xs = [] := by
      rcases Nat.eq_zero_or_pos xs.length with h0 | h0
      · exact List.eq_nil_of_length_eq_zero h0
      · obtain ⟨b, off, e, _⟩ := h.2.2 h0
        cases e
    subst h0
    clear h hl
    rw [show val [] = 0 from rfl, digs_zero]
    go_enter Try.func29, Try.ntmps29
    go_wp2
    go_loop [3] (fun n => n = .int .i64 0) (fun n => (intOf n).toNat)
    case atStart => rfl
    case round =>
      subst hrel
      go_wp2_with (at_builtin; refine wpList_append_nil rfl _ _ 22 rfl 37 i0 Try.underlying22 hi c rfl rfl ?_)
      go_ret
      exact ⟨none, 0, rfl, Dg.nil_ _ _, Below.refl _ _, fr_none _⟩
  · have H := Lib.hid h
    have hcap := h.1
    clear h
    go_enter Try.func29, Try.ntmps29
    go_wp2
    go_loop [3] (fun n => ∃ k : Nat, k ≤ xs.length ∧ n = .int .i64 k ∧ Hid (∀ j, k ≤ j → j < xs.length → xs[j]?.getD 0 = 0)) (fun n => (intOf n).toNat)
    case atStart => exact ⟨xs.length, Nat.le_refl _, rfl, fun j h1 h2 => by omega⟩
    case round =>
      obtain ⟨k, hk, rfl, hz⟩ := hrel
      by_cases hk0 : k = 0
      · subst hk0
        have HT := Lib.hid (show ([] : List Value) = cells (digs (val xs)) from by rw [← digs_take H.out.2.1 hk hz (fun h => absurd h (by omega))]; rfl)
        clear hz hk
        go_wp2_with (at_builtin; refine wpList_append_own _ rfl _ _ 22 rfl w.heap.size 37 i0 (.int .u32 0) 1 4 Try.underlying22 hi hz0 hz1 hz2 rfl (by decide) _ _ _ rfl (World.ownsRow_nil _ _ _ _) A 0 c [] rfl rfl (fun j u hj => by simp at hj) (fun u hu => by simp at hu) (by unfold maxLen; omega) (by omega) (Nat.le_refl _) ?_)
        intro v' w1 hown hgrow hnil
        try simp only [Nat.add_zero, List.append_nil] at hown
        rw [HT.out] at hown
        obtain ⟨A', c', hv, hd, hfr⟩ := dg_of_own_f hown (ok_digs _)
        have HV := Lib.hid hv
        have HFR := Lib.hid hfr
        clear hfr hv hown hnil
        go_wp2
        go_ret
        exact ⟨A', c', by rw [← HV.out]; rfl, hd, (Below.refl _ w).grown hgrow (Nat.le_refl _) (by intro k hk; simp [Value.ownBlock] at hk), HFR.out⟩
      · obtain ⟨b, off, hA, hb, hcell⟩ := H.out.2.2 (by omega)
        have hc1 := hcell (k - 1) (by omega)
        have hkc : k ≤ c := by omega
        have hk1 : 0 < k := by omega
        injection hA with hA
        by_cases hx : xs[k - 1]?.getD 0 = 0
        · have hx' : ((xs[k - 1]?.getD 0 : Nat) == (0 : Int)) = true := by rw [hx]; rfl
          have HX := Lib.hid hx
          clear hcell hx
          subst hA
          go_wp2
          go_round
          case rel =>
            refine ⟨k - 1, by omega, by go_num, fun j h1 h2 => ?_⟩
            by_cases hj : j = k - 1
            · subst hj; exact HX.out
            · exact hz j (by omega) h2
          case measure => simp [intOf]; omega
        · have hx' : ((xs[k - 1]?.getD 0 : Nat) == (0 : Int)) = false := by simp; omega
          have HT := Lib.hid (show cells (xs.take k) = cells (digs (val xs)) from by rw [digs_take H.out.2.1 hk hz (fun _ => hx)])
          clear hcell hx
          subst hA
          go_wp2_with (at_builtin; refine wpList_append_own _ rfl _ _ 22 rfl w.heap.size 37 i0 (.int .u32 0) 1 4 Try.underlying22 hi hz0 hz1 hz2 rfl (by decide) _ _ _ rfl (World.ownsRow_nil _ _ _ _) ⟨b, off, none⟩ k c (cells (xs.take k)) rfl ?qc1 ?qc2 ?qc3 ?qc4 ?qc5 ?qc6 ?_)
          case qc1 => simp [cells] <;> omega
          case qc2 =>
            intro j u hj
            obtain ⟨hlt, rfl⟩ := cells_get hj
            rw [List.length_take] at hlt
            have h1 : j < k := Nat.lt_of_lt_of_le hlt (Nat.min_le_left _ _)
            have h2 : j < xs.length := Nat.lt_of_lt_of_le hlt (Nat.min_le_right _ _)
            rw [List.getElem?_take, if_pos h1]
            have hdc := dg_cell H.out (cells_at h2)
            rw [Addr.add_lit] at hdc
            exact hdc
          case qc3 => intro u hu; unfold cells at hu; obtain ⟨x, _, rfl⟩ := List.mem_map.1 hu; rfl
          case qc4 => unfold maxLen; omega
          case qc5 => omega
          intro v' w1 hown hgrow hnil
          rw [HT.out] at hown
          obtain ⟨A', c', hv, hd, hfr⟩ := dg_of_own_f hown (ok_digs _)
          have HV := Lib.hid hv
          have HFR := Lib.hid hfr
          clear hfr hv hown hnil
          go_wp2
          go_ret
          exact ⟨A', c', by rw [← HV.out]; rfl, hd, (Below.refl _ w).grown hgrow (Nat.le_refl _) (by intro k hk; simp [Value.ownBlock] at hk), HFR.out⟩
theorem rtrim_any (A : Option Addr) (c : Nat) (xs : List Nat) (w : World) (h : Dg w A c xs) (hl : xs.length ≤ 16777216) :
    Calls Try.prog 29 #[.slice A xs.length c] w fun e w' => ∃ A' c', e = .returned (.slice A' (digs (val xs)).length c') ∧ Dg w' A' c' (digs (val xs)) ∧ Below w.heap.size w w' :=
  (rtrim_f A c xs w h hl).mono fun _ _ ⟨A', c', h1, h2, h3, _⟩ => ⟨A', c', h1, h2, h3⟩
end Go.Proofs.Ytceningojnfgpaa
