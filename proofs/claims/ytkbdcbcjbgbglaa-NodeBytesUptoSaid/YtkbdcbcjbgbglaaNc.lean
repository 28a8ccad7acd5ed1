/-
  Right of both sides; the document's Plain.
-/
import Derived.Test.YtkbdcbcjbgbglaaNb
namespace Go.Proofs.Ytkbdcbcjbgbglaa
open Go.RowKit
theorem rightB_eq {lf : Bool} {ks : List (List UInt8)} {ds : List Int} (h1 : shapedB lf ks ds = true) (h2 : lf = true → 0 < ks.length) (h3 : sizeN ks ds ≤ 120) : rightB lf ks ds = (kchain none ks && ds.all dOk) := by
  unfold rightB plainB
  rw [h1, decide_eq_true h3]
  cases lf
  · simp
  · rw [decide_eq_true (h2 rfl)]; simp
theorem rightB_no1 {lf : Bool} {ks : List (List UInt8)} {ds : List Int} (h1 : shapedB lf ks ds = false) : rightB lf ks ds = false := by unfold rightB plainB; rw [h1]; rfl
theorem rightB_no2 {ks : List (List UInt8)} {ds : List Int} (h2 : ks.length = 0) : rightB true ks ds = false := by unfold rightB; rw [decide_eq_false (by omega)]; simp
theorem rightB_no3 {lf : Bool} {ks : List (List UInt8)} {ds : List Int} (h3 : ¬ sizeN ks ds ≤ 120) : rightB lf ks ds = false := by unfold rightB; rw [decide_eq_false h3]; simp
theorem plainB_eq {lf : Bool} {ks : List (List UInt8)} {ds : List Int} (h1 : shapedB lf ks ds = true) : plainB lf ks ds = (kchain none ks && ds.all dOk) := by unfold plainB; rw [h1]; rfl
theorem plainB_no {lf : Bool} {ks : List (List UInt8)} {ds : List Int} (h1 : shapedB lf ks ds = false) : plainB lf ks ds = false := by unfold plainB; rw [h1]; rfl
theorem chain_at {ks : List (List UInt8)} {k : Nat} {x : List UInt8} (h : ks[k]? = some x) : kchain (prevK ks k) (ks.drop k) = (kOk (prevK ks k) x && kchain (prevK ks (k + 1)) (ks.drop (k + 1))) := by
  rw [drop_some h, prevK_succ h]; rfl
theorem kOk_eq {p : Option (List UInt8)} {x : List UInt8} (h1 : 1 ≤ x.length) (h2 : x.length ≤ 16) : kOk p x = belowB p x := by
  unfold kOk; rw [decide_eq_true h1, decide_eq_true h2]; rfl
theorem kOk_no1 {p : Option (List UInt8)} {x : List UInt8} (h1 : ¬ 1 ≤ x.length) : kOk p x = false := by unfold kOk; rw [decide_eq_false h1]; rfl
theorem kOk_no2 {p : Option (List UInt8)} {x : List UInt8} (h1 : ¬ x.length ≤ 16) : kOk p x = false := by unfold kOk; rw [decide_eq_false h1]; simp
theorem all_at {ds : List Int} {k : Nat} {x : Int} (h : ds[k]? = some x) : (ds.drop k).all dOk = (dOk x && (ds.drop (k + 1)).all dOk) := by rw [drop_some h]; rfl
set_option maxHeartbeats 4000000 in
set_option maxRecDepth 100000 in
theorem right_any (lf : Bool) (A : Option Addr) (c : Nat) (ks : List (List UInt8)) (B : Option Addr) (d : Nat) (ds : List Int) (w : World) (h : Rl sv w A c ks) (h2 : Rl nv w B d ds) (hl : ks.length ≤ 4000000) (hl2 : ds.length ≤ 4000001) (hz : sizeN ks ds < 4611686018427387904) :
    Calls Try.prog 18 #[.agg #[.bool lf, .slice A ks.length c, .slice B ds.length d]] w fun e w' => e = .returned (.bool (rightB lf ks ds)) ∧ Below w.heap.size w w' := by
  have SH := Lib.hid (fun V => shaped_any lf A c ks B d ds V hl)
  have H := Lib.hid h
  have H2 := Lib.hid h2
  have SZ := Lib.hid (fun V (hV : Rl sv V A c ks) => size_any lf A c ks B d ds V hV hl hz)
  clear h h2 hz
  cases hs : shapedB lf ks ds
  · rw [hs] at SH
    have RB := Lib.hid (rightB_no1 hs)
    clear hs
    go_enter Try.func18, Try.ntmps18
    go_wp2_with fail
    refine (SH.out _).mono ?_
    rintro e w2 ⟨rfl, hb⟩
    have K2 := Lib.hid (bon (bda _ _) hb)
    clear hb
    go_wp2
    go_ret
    exact ⟨ret_b RB.out.symm, K2.out⟩
  · rw [hs] at SH
    have HS := Lib.hid hs
    clear hs
    obtain ⟨W, hW⟩ : ∃ W : World, W = w.alloc (.cells #[.bool lf, .slice A ks.length c, .slice B ds.length d] 25) := ⟨_, rfl⟩
    have ra := heap_alloc_new w (.cells #[.bool lf, .slice A ks.length c, .slice B ds.length d] 25)
    rw [← hW] at ra
    have RA := Lib.hid ra
    have BA := Lib.hid (show Below w.heap.size w W by rw [hW]; exact bda _ _)
    have HW := Lib.hid hW
    clear hW ra
    have START : ∀ (P : Prop), P → P := fun _ p => p
    by_cases hk0 : lf = true ∧ ks.length = 0
    · obtain ⟨rfl, hk0⟩ := hk0
      have RB := Lib.hid (rightB_no2 (ds := ds) hk0)
      have e1 : ((ks.length : Int) == 0) = true := by rw [hk0]; rfl
      have e2 : (ks.length == 0) = true := by rw [hk0]; rfl
      clear hk0 START
      go_enter Try.func18, Try.ntmps18
      go_wp2_with fail
      rw [← HW.out]
      refine (SH.out _).mono ?_
      rintro e w2 ⟨rfl, hb⟩
      have f0 := row_c (row_on RA.out hb) (i := 0) rfl
      have f1 := row_c (row_on RA.out hb) (i := 1) rfl
      have K2 := Lib.hid (BA.out.trans (hb.mono BA.out.size))
      clear hb
      go_wp2
      go_ret
      exact ⟨ret_b RB.out.symm, K2.out⟩
    · have hl0 : lf = true → 0 < ks.length := fun hh => by
        rcases Nat.eq_zero_or_pos ks.length with h0 | h0
        · exact absurd ⟨hh, h0⟩ hk0
        · exact h0
      have e1 : lf = true → ((ks.length : Int) == 0) = false := fun hh => beq_eq_false_iff_ne.2 (by have := hl0 hh; omega)
      have e2 : lf = true → (ks.length == 0) = false := fun hh => beq_eq_false_iff_ne.2 (by have := hl0 hh; omega)
      have L0 := Lib.hid hl0
      clear hk0 START hl0
      by_cases hbig : sizeN ks ds ≤ 120
      · have EQ := Lib.hid (rightB_eq HS.out L0.out hbig)
        have e3 : decide (120 < sizeN ks ds) = false := decide_eq_false (by omega)
        have e4 : decide ((120 : Int) < (sizeN ks ds : Int)) = false := decide_eq_false (by omega)
        clear hbig
        generalize rightB lf ks ds = RBV at *
        generalize sizeN ks ds = SN at *
        cases lf
        all_goals
          try have e1 := e1 rfl
          try have e2 := e2 rfl
          go_enter Try.func18, Try.ntmps18
          go_wp2_with fail
          rw [← HW.out]
          refine (SH.out _).mono ?_
          rintro e w2 ⟨rfl, hb⟩
          have R2 := Lib.hid (row_on RA.out hb)
          have K2 := Lib.hid (BA.out.trans (hb.mono BA.out.size))
          clear hb
          have f0 := row_c R2.out (i := 0) rfl
          have f1 := row_c R2.out (i := 1) rfl
          have f2 := row_c R2.out (i := 2) rfl
          go_wp2_with fail
          refine (SZ.out _ (H.out.below K2.out)).mono ?_
          rintro e W ⟨rfl, hb⟩
          clear f0 f1 f2
          have RW := Lib.hid (row_on R2.out hb)
          have B1 := Lib.hid (K2.out.trans (hb.mono K2.out.size))
          clear hb
          have f0 := row_c RW.out (i := 0) rfl
          have f1 := row_c RW.out (i := 1) rfl
          have f2 := row_c RW.out (i := 2) rfl
          go_wp2_with fail
          clear f0 f1 f2 e1 e2 e3 e4 SH SZ R2 K2 RA BA HW
          go_loopw [28] (fun i wr => ∃ k : Nat, k ≤ ks.length ∧ i = .int .i64 k ∧ Hid (kchain none ks = kchain (prevK ks k) (ks.drop k)) ∧ Hid (Below W.heap.size W wr)) (fun i _ => ks.length - (intOf i).toNat)
          case atStart => exact ⟨0, Nat.zero_le _, rfl, Lib.hid rfl, Lib.hid (by first | exact Below.refl _ _ | exact SB.out)⟩
          case round =>
            obtain ⟨k, hk, rfl, hch, hb⟩ := hrel
            have KW := Lib.hid (show Below w.heap.size w wr from B1.out.trans (hb.out.mono B1.out.size))
            have f1 := row_c (row_on RW.out hb.out) (i := 1) rfl
            have f2 := row_c (row_on RW.out hb.out) (i := 2) rfl
            by_cases hlt : k < ks.length
            · obtain ⟨x, hx⟩ := get_lt hlt
              obtain ⟨b, off, hA, hbl, g2⟩ := (H.out.below KW.out).cell hx
              have CH := Lib.hid (show kchain none ks = (kOk (prevK ks k) x && kchain (prevK ks (k + 1)) (ks.drop (k + 1))) by rw [hch.out, chain_at hx])
              have HLT := Lib.hid hlt
              have hsx := str_size x
              unfold sv at g2
              clear hch
              generalize hX : x.length = X at *
              have k0 : (0 : Int) ≤ (k : Int) := by omega
              have k1 : (k : Int) < (ks.length : Int) := by omega
              by_cases c1 : X < 1
              · have CF := Lib.hid (show kchain none ks = false by rw [CH.out, kOk_no1 (by omega)]; rfl)
                clear CH hX
                subst hA
                have e1 : decide (X < 1) = true := decide_eq_true c1
                have e2 : decide ((X : Int) < 1) = true := decide_eq_true (by omega)
                clear c1
                go_wp2
                go_ret
                exact ⟨ret_b (by rw [EQ.out, CF.out]; rfl), KW.out⟩
              · have e1 : decide (X < 1) = false := decide_eq_false c1
                have e2 : decide ((X : Int) < 1) = false := decide_eq_false (by omega)
                by_cases c2 : 16 < X
                · have CF := Lib.hid (show kchain none ks = false by rw [CH.out, kOk_no2 (by omega)]; rfl)
                  clear CH hX
                  subst hA
                  have e3 : decide (16 < X) = true := decide_eq_true c2
                  have e4 : decide (16 < (X : Int)) = true := decide_eq_true (by omega)
                  clear c1 c2
                  go_wp2
                  go_ret
                  exact ⟨ret_b (by rw [EQ.out, CF.out]; rfl), KW.out⟩
                · have e3 : decide (16 < X) = false := decide_eq_false c2
                  have e4 : decide (16 < (X : Int)) = false := decide_eq_false (by omega)
                  have CK := Lib.hid (show kchain none ks = (belowB (prevK ks k) x && kchain (prevK ks (k + 1)) (ks.drop (k + 1))) by rw [CH.out, kOk_eq (by omega) (by omega)])
                  clear CH hX c1 c2
                  rcases Nat.eq_zero_or_pos k with hk0 | hk0
                  · subst hk0
                    have CF := Lib.hid (show kchain none ks = kchain (prevK ks (0 + 1)) (ks.drop (0 + 1)) by rw [CK.out]; rfl)
                    clear CK k0 k1
                    have k1 : (0 : Int) < (ks.length : Int) := by omega
                    rw [Nat.add_zero] at g2
                    simp only [Int.natCast_zero]
                    subst hA
                    go_wp2
                    go_roundw
                    case rel => exact ⟨0 + 1, HLT.out, by go_num, CF, hb⟩
                    case measure => simp [intOf]; have := HLT.out; omega
                  · obtain ⟨j, rfl⟩ : ∃ j, k = j + 1 := ⟨k - 1, by omega⟩
                    obtain ⟨p, hp⟩ := get_lt (xs := ks) (k := j) (by omega)
                    have hpr : prevK ks (j + 1) = some p := prevK_succ hp
                    obtain ⟨b', off', hA', _, g3⟩ := (H.out.below KW.out).cell hp
                    rw [hA] at hA'
                    injection hA' with hA'
                    injection hA' with q1 q2
                    subst q1 q2
                    unfold sv at g3
                    have LS := less_dec p x
                    have j0 : decide ((0 : Int) < (j : Int) + 1) = true := decide_eq_true (by omega)
                    have j1 : (j : Int) < (ks.length : Int) := by omega
                    rw [hpr] at CK
                    subst hA
                    cases hq : decide (p < x)
                    · have CF := Lib.hid (show kchain none ks = false by rw [CK.out]; unfold belowB; simp only [hq]; rfl)
                      rw [hq] at LS
                      clear CK hq hpr hp hx
                      go_wp2
                      go_ret
                      exact ⟨ret_b (by rw [EQ.out, CF.out]; rfl), KW.out⟩
                    · have CF := Lib.hid (show kchain none ks = kchain (prevK ks (j + 1 + 1)) (ks.drop (j + 1 + 1)) by rw [CK.out]; unfold belowB; simp only [hq]; rfl)
                      rw [hq] at LS
                      clear CK hq hpr hp hx
                      go_wp2
                      go_roundw
                      case rel => exact ⟨j + 1 + 1, HLT.out, by go_num, CF, hb⟩
                      case measure => simp [intOf]; have := HLT.out; omega
            · obtain rfl : k = ks.length := by omega
              have CT := Lib.hid (show kchain none ks = true by rw [hch.out, List.drop_length]; rfl)
              clear hch
              go_wp2_with fail
              clear f1 f2
              go_loopw [59] (fun i wz => ∃ k : Nat, k ≤ ds.length ∧ i = .int .i64 k ∧ Hid (ds.all dOk = (ds.drop k).all dOk) ∧ Hid (Below W.heap.size W wz)) (fun i _ => ds.length - (intOf i).toNat)
              case atStart => exact ⟨0, Nat.zero_le _, rfl, Lib.hid rfl, hb⟩
              case round =>
                obtain ⟨k, hk, rfl, hch, hb⟩ := hrel
                have KW := Lib.hid (show Below w.heap.size w wr from B1.out.trans (hb.out.mono B1.out.size))
                have f2 := row_c (row_on RW.out hb.out) (i := 2) rfl
                by_cases hlt : k < ds.length
                · obtain ⟨x, hx⟩ := get_lt hlt
                  obtain ⟨b, off, hA, hbl, g2⟩ := (H2.out.below KW.out).cell hx
                  have CH := Lib.hid (show ds.all dOk = (dOk x && (ds.drop (k + 1)).all dOk) by rw [hch.out, all_at hx])
                  have HLT := Lib.hid hlt
                  unfold nv at g2
                  clear hch
                  have k0 : (0 : Int) ≤ (k : Int) := by omega
                  have k1 : (k : Int) < (ds.length : Int) := by omega
                  subst hA
                  by_cases c1 : x < 2
                  · have CF := Lib.hid (show ds.all dOk = false by rw [CH.out]; unfold dOk; rw [decide_eq_false (show ¬ 2 ≤ x by omega)]; rfl)
                    have e1 : decide (x < 2) = true := decide_eq_true c1
                    clear CH c1
                    go_wp2
                    go_ret
                    exact ⟨ret_b (by rw [EQ.out, CF.out]; simp), KW.out⟩
                  · have e1 : decide (x < 2) = false := decide_eq_false c1
                    by_cases c2 : 511 < x
                    · have CF := Lib.hid (show ds.all dOk = false by rw [CH.out]; unfold dOk; rw [decide_eq_false (show ¬ x ≤ 511 by omega)]; simp)
                      have e2 : decide (511 < x) = true := decide_eq_true c2
                      clear CH c1 c2
                      go_wp2
                      go_ret
                      exact ⟨ret_b (by rw [EQ.out, CF.out]; simp), KW.out⟩
                    · have e2 : decide (511 < x) = false := decide_eq_false c2
                      have CF := Lib.hid (show ds.all dOk = (ds.drop (k + 1)).all dOk by rw [CH.out]; unfold dOk; rw [decide_eq_true (show 2 ≤ x by omega), decide_eq_true (show x ≤ 511 by omega)]; rfl)
                      clear CH c1 c2
                      go_wp2
                      go_roundw
                      case rel => exact ⟨k + 1, HLT.out, by go_num, CF, hb⟩
                      case measure => simp [intOf]; have := HLT.out; omega
                · obtain rfl : k = ds.length := by omega
                  have CU := Lib.hid (show ds.all dOk = true by rw [hch.out, List.drop_length]; rfl)
                  clear hch
                  go_wp2
                  go_ret
                  exact ⟨ret_b (by rw [EQ.out, CT.out, CU.out]; rfl), KW.out⟩

      · have RB := Lib.hid (rightB_no3 (lf := lf) hbig)
        have e3 : decide (120 < sizeN ks ds) = true := decide_eq_true (by omega)
        have e4 : decide ((120 : Int) < (sizeN ks ds : Int)) = true := decide_eq_true (by omega)
        clear hbig
        generalize rightB lf ks ds = RBV at *
        generalize sizeN ks ds = SN at *
        cases lf
        all_goals
          try have e1 := e1 rfl
          try have e2 := e2 rfl
          go_enter Try.func18, Try.ntmps18
          go_wp2_with fail
          rw [← HW.out]
          refine (SH.out _).mono ?_
          rintro e w2 ⟨rfl, hb⟩
          have R2 := Lib.hid (row_on RA.out hb)
          have K2 := Lib.hid (BA.out.trans (hb.mono BA.out.size))
          clear hb
          have f0 := row_c R2.out (i := 0) rfl
          have f1 := row_c R2.out (i := 1) rfl
          have f2 := row_c R2.out (i := 2) rfl
          go_wp2_with fail
          refine (SZ.out _ (H.out.below K2.out)).mono ?_
          rintro e w3 ⟨rfl, hb⟩
          clear f0 f1 f2
          have K3 := Lib.hid (K2.out.trans (hb.mono K2.out.size))
          clear hb
          go_wp2
          go_ret
          exact ⟨ret_b RB.out.symm, K3.out⟩
end Go.Proofs.Ytkbdcbcjbgbglaa
