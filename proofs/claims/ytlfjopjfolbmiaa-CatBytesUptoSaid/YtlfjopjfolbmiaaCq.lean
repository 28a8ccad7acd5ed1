/-
  The document's root, Right, Find.
-/
import Derived.Test.YtlfjopjfolbmiaaCk
namespace Go.Proofs.Ytlfjopjfolbmiaa
open Go.RowKit
set_option maxHeartbeats 400000 in
theorem rroot_any (n : Int) (w : World) : Calls Try.prog 29 #[.int .i64 n] w fun e w' => e = .returned (.bool (rootB n)) ∧ w = w' := by
  unfold rootB
  by_cases h0 : n = 0
  · subst h0
    go_enter Try.func29, Try.ntmps29
    go_wp2
    go_ret
    exact ⟨rfl, rfl⟩
  · have d0 : (n == 0) = false := by simpa using h0
    rw [d0]
    by_cases h2 : 2 ≤ n
    · have d2 : decide (2 ≤ n) = true := decide_eq_true h2
      rw [d2]
      cases d3 : decide (n ≤ 511)
      all_goals
        go_enter Try.func29, Try.ntmps29
        go_wp2
        go_ret
        exact ⟨rfl, rfl⟩
    · have d2 : decide (2 ≤ n) = false := decide_eq_false h2
      rw [d2]
      go_enter Try.func29, Try.ntmps29
      go_wp2
      go_ret
      exact ⟨rfl, rfl⟩
def lastOf (vs : List (Int × Int)) (k : Nat) : Int := if k = 0 then 0 else (at2 vs (k - 1)).1
set_option maxHeartbeats 4000000 in
set_option maxRecDepth 100000 in
theorem rright_in (next : Int) (A : Option Addr) (c : Nat) (vs : List (Int × Int)) (w : World) (h : Vs w A c vs) (h1 : 1 ≤ next) (h2 : next ≤ 16777216) (h3 : vs.length ≤ 12) :
    Calls Try.prog 16 #[.agg #[.int .i64 next, .slice A vs.length c]] w fun e w' => e = .returned (.bool (chainB next 0 vs)) ∧ Below w.heap.size w w' := by
  have d1 : decide (next < 1) = false := by simp; omega
  have d2 : decide (16777216 < next) = false := by simp; omega
  have d3 : decide (12 < vs.length) = false := by simp; omega
  have d4 : decide ((12 : Int) < (vs.length : Int)) = false := by simp; omega
  have H := Lib.hid h
  clear h
  have RW := Lib.hid (heap_alloc_new w (.cells #[.int .i64 next, .slice A vs.length c] 34))
  go_enter Try.func16, Try.ntmps16
  go_wp2_with fail
  obtain ⟨W, hW⟩ : ∃ W : World, W = w.alloc (.cells #[.int .i64 next, .slice A vs.length c] 34) := ⟨_, rfl⟩
  rw [← hW] at RW ⊢
  have B1 := Lib.hid (show Below w.heap.size w W by rw [hW]; exact bda _ _)
  clear hW
  go_loopw [3] (fun i wr => ∃ (k : Nat), k ≤ vs.length ∧ i = .int .i64 k ∧ Hid (chainB next 0 vs = chainB next (lastOf vs k) (vs.drop k)) ∧ Hid (Below W.heap.size W wr) ∧ Hid (0 < k → 1 ≤ lastOf vs k)) (fun i _ => vs.length - (intOf i).toNat)
  case atStart => exact ⟨0, Nat.zero_le _, rfl, Lib.hid rfl, Lib.hid (Below.refl _ _), Lib.hid (fun h => by omega)⟩
  case round =>
    obtain ⟨k, hk, rfl, hch, hb, hla⟩ := hrel
    have f3 := row_c (row_on RW.out hb.out) (i := 0) rfl
    have f4 := row_c (row_on RW.out hb.out) (i := 1) rfl
    have s1 : w.heap.size < wr.heap.size := heap_lt (row_on RW.out hb.out)
    by_cases hlt : k < vs.length
    · obtain ⟨b, off, hA, hbl, hcell⟩ := (H.out.below B1.out).2 (by omega)
      have HCELL := Lib.hid hcell
      have f1 := (hb.out.cell (p := ⟨b, off + k * 2, none⟩) hbl).trans (hcell k hlt).1
      have f2 := (hb.out.cell (p := ⟨b, off + k * 2 + 1, none⟩) hbl).trans (hcell k hlt).2
      have LN := Lib.hid (show lastOf vs (k + 1) = (at2 vs k).1 by unfold lastOf; rw [if_neg (by omega)]; rfl)
      have CH := Lib.hid (show chainB next 0 vs = (decide (lastOf vs k < (at2 vs k).1) && decide ((at2 vs k).1 < next) && rootB (at2 vs k).2 && chainB next (at2 vs k).1 (vs.drop (k + 1))) by rw [hch.out, drop_at hlt]; rfl)
      have HLT := Lib.hid hlt
      have sb : b < wr.heap.size := Nat.lt_of_lt_of_le hbl hb.out.size
      clear hcell hch
      obtain ⟨v, hv⟩ : ∃ v, at2 vs k = v := ⟨_, rfl⟩
      rw [hv] at f1 f2 CH LN
      clear hv
      obtain ⟨n, r⟩ := v
      simp only at f1 f2 CH LN
      have k0 : (0 : Int) ≤ (k : Int) := by omega
      have k1 : (k : Int) < (vs.length : Int) := by omega
      subst hA
      have hbl2 := hbl
      · skip
        by_cases c1 : 1 ≤ n
        · have e1 : decide (n < 1) = false := by simp; omega
          by_cases c2 : n < next
          · have e2 : decide (next ≤ n) = false := by simp; omega
            have RB := Lib.hid (fun V => rroot_any r V)
            cases c3 : rootB r
            · rw [c3] at RB CH
              have CF := Lib.hid (show chainB next 0 vs = false by rw [CH.out]; simp)
              clear c3 CH c1 c2
              go_wp2_with fail
              go_upto_region 7 with (fail)
              go_quiet ((go_at_call 29; exact Calls.quiet_of_same ((RB.out _).mono fun _ _ ⟨h1, h2⟩ => ⟨h1, h2.symm⟩)))
              go_wp2
              go_ret
              exact ⟨ret_b CF.out.symm, bon B1.out (below_drewN (bon hb.out (bda _ _)) _)⟩
            · rw [c3] at RB CH
              by_cases ck : k = 0
              · have e4 : decide ((0 : Int) < (k : Int)) = false := by simp; omega
                have e4' : decide (0 < k) = false := by simp; omega
                have CF := Lib.hid (show chainB next 0 vs = chainB next (lastOf vs (k + 1)) (vs.drop (k + 1)) by rw [CH.out, show lastOf vs k = 0 by unfold lastOf; rw [if_pos ck], decide_eq_true (show 0 < n by omega), decide_eq_true c2, LN.out]; rfl)
                have LA := Lib.hid (show 0 < k + 1 → 1 ≤ lastOf vs (k + 1) by intro _; rw [LN.out]; exact c1)
                clear c3 CH c1 c2 ck
                go_wp2_with fail
                go_upto_region 7 with (fail)
                go_quiet ((go_at_call 29; exact Calls.quiet_of_same ((RB.out _).mono fun _ _ ⟨h1, h2⟩ => ⟨h1, h2.symm⟩)))
                go_wp2
                go_roundw
                case rel => exact ⟨k + 1, HLT.out, by go_num, CF, Lib.hid (below_drewN (bon hb.out (bda _ _)) _), LA⟩
                case measure => simp [intOf]; have := HLT.out; omega
              · have e4 : decide ((0 : Int) < (k : Int)) = true := by simp; omega
                have e4' : decide (0 < k) = true := by simp; omega
                obtain ⟨j, hj⟩ : ∃ j, k = j + 1 := ⟨k - 1, by omega⟩
                have hj1 : (k : Int) - 1 = (j : Int) := by omega
                have hj2 : IntKind.i64.wrap ((k : Int) - 1) = (j : Int) := by rw [hj1]; exact IntWalk.i64_in _ (by omega)
                have hj3 : IntKind.i64.wrap (j : Int) = (j : Int) := IntWalk.i64_in _ (by omega)
                have g1 := (hb.out.cell (p := ⟨b, off + j * 2, none⟩) hbl).trans (HCELL.out j (by omega)).1
                have jl : j < vs.length := by omega
                have jl' : (j : Int) < (vs.length : Int) := by omega
                have LK := Lib.hid (show lastOf vs k = (at2 vs j).1 by unfold lastOf; rw [if_neg ck, hj]; rfl)
                have LB := Lib.hid (show 1 ≤ (at2 vs j).1 by rw [← LK.out]; exact hla.out (by omega))
                rw [LK.out] at CH
                generalize at2 vs j = pv at *
                obtain ⟨pn, pr⟩ := pv
                simp only at g1 CH LB
                have HJ := Lib.hid hj
                clear hj ck
                by_cases cp : pn < n
                · have e5 : decide (n ≤ pn) = false := by simp; omega
                  have CF := Lib.hid (show chainB next 0 vs = chainB next (lastOf vs (k + 1)) (vs.drop (k + 1)) by rw [CH.out, decide_eq_true cp, decide_eq_true c2, LN.out]; rfl)
                  have LA := Lib.hid (show 0 < k + 1 → 1 ≤ lastOf vs (k + 1) by intro _; rw [LN.out]; exact c1)
                  clear c3 CH c1 c2 cp
                  go_wp2_with fail
                  go_upto_region 7 with (fail)
                  go_quiet ((go_at_call 29; exact Calls.quiet_of_same ((RB.out _).mono fun _ _ ⟨h1, h2⟩ => ⟨h1, h2.symm⟩)))
                  go_wp2
                  go_roundw
                  case rel => exact ⟨k + 1, HLT.out, by go_num, CF, Lib.hid (below_drewN (bon hb.out (bda _ _)) _), LA⟩
                  case measure => simp [intOf]; have := HLT.out; omega
                · have e5 : decide (n ≤ pn) = true := by simp; omega
                  have CF := Lib.hid (show chainB next 0 vs = false by rw [CH.out, decide_eq_false cp]; rfl)
                  clear c3 CH c1 c2 cp
                  go_wp2_with fail
                  go_upto_region 7 with (fail)
                  go_quiet ((go_at_call 29; exact Calls.quiet_of_same ((RB.out _).mono fun _ _ ⟨h1, h2⟩ => ⟨h1, h2.symm⟩)))
                  go_wp2
                  go_ret
                  exact ⟨ret_b CF.out.symm, bon B1.out (below_drewN (bon hb.out (bda _ _)) _)⟩
          · have e2 : decide (next ≤ n) = true := by simp; omega
            have CF := Lib.hid (show chainB next 0 vs = false by rw [CH.out, decide_eq_false c2]; simp)
            clear CH c1 c2
            have RB := Lib.hid (fun V => rroot_any r V)
            go_wp2_with fail
            go_upto_region 7 with (fail)
            go_quiet ((go_at_call 29; exact Calls.quiet_of_same ((RB.out _).mono fun _ _ ⟨h1, h2⟩ => ⟨h1, h2.symm⟩)))
            go_wp2
            go_ret
            exact ⟨ret_b CF.out.symm, bon B1.out (below_drewN (bon hb.out (bda _ _)) _)⟩
        · have e1 : decide (n < 1) = true := by simp; omega
          have CF := Lib.hid (show chainB next 0 vs = false by
            rw [CH.out, decide_eq_false (fun hh => c1 (by
              by_cases ck : k = 0
              · rw [show lastOf vs k = 0 by unfold lastOf; rw [if_pos ck]] at hh; omega
              · have := hla.out (by omega); omega))]
            rfl)
          clear CH c1
          have RB := Lib.hid (fun V => rroot_any r V)
          go_wp2_with fail
          go_upto_region 7 with (fail)
          go_quiet ((go_at_call 29; exact Calls.quiet_of_same ((RB.out _).mono fun _ _ ⟨h1, h2⟩ => ⟨h1, h2.symm⟩)))
          go_wp2
          go_ret
          exact ⟨ret_b CF.out.symm, bon B1.out (below_drewN (bon hb.out (bda _ _)) _)⟩
    · have hkl : k = vs.length := by omega
      subst hkl
      have CF := Lib.hid (show chainB next 0 vs = true by rw [hch.out, List.drop_length]; rfl)
      clear hch
      go_wp2
      go_ret
      exact ⟨ret_b CF.out.symm, bon B1.out hb.out⟩
end Go.Proofs.Ytlfjopjfolbmiaa
