/-
  page.Open.
-/
import Derived.Test.YtmgdpchjimlmeaaPd
namespace Go.Proofs.Ytmgdpchjimlmeaa
open Go.RowKit
set_option maxHeartbeats 1000000 in
set_option maxRecDepth 100000 in
theorem open_short (b : List UInt8) (w : World) (h : b.length ≠ 128) :
    Calls Try.prog 79 #[.string ⟨b.toArray⟩] w fun e w' => e = .returned (.tuple #[.int .i64 0, .string ⟨#[]⟩, .int .i64 2]) ∧ w = w' := by
  have hs := Lib.hid (str_size b)
  have d1 : ((b.length : Int) == 128) = false := by simp; omega
  have d2 : ((b.length : Int) != 128) = true := by simp; omega
  go_enter Try.func79, Try.ntmps79
  go_wp2
  go_ret3
  exact ⟨rfl, rfl⟩
theorem ext_take (b : List UInt8) (n : Nat) : (⟨b.toArray⟩ : ByteArray).extract 0 n = ⟨(b.take n).toArray⟩ := by rw [Lib.extract_eq]; simp
theorem ext_drop (b : List UInt8) (n : Nat) : (⟨b.toArray⟩ : ByteArray).extract n b.length = ⟨(b.drop n).toArray⟩ := by
  rw [Lib.extract_eq]
  simp only [List.take_of_length_le (show (b.drop n).length ≤ b.length - n by simp)]
set_option maxHeartbeats 1000000 in
set_option maxRecDepth 100000 in
theorem open_sum (b : List UInt8) (w : World) (h : b.length = 128) (hq : sumT (b.take 124) ≠ b.drop 124) :
    Calls Try.prog 79 #[.string ⟨b.toArray⟩] w fun e w' => e = .returned (.tuple #[.int .i64 0, .string ⟨#[]⟩, .int .i64 10]) ∧ Below w.heap.size w w' := by
  have hs := Lib.hid (str_size b)
  have d1 : ((b.length : Int) == 128) = true := by simp; omega
  have d2 : ((b.length : Int) != 128) = false := by simp; omega
  have l0 : b.length ≤ 128 := by omega
  have l1 : 128 ≤ b.length := by omega
  have l2 : (124 : Int) ≤ (b.length : Int) := by omega
  have e1 := ext_take b 124
  have e2 := ext_drop b 124
  have SM := Lib.hid (fun W => sumText_any (b.take 124) W (by simp; omega))
  generalize b.take 124 = p at *
  generalize b.drop 124 = q at *
  have hqb : (sumT p == q) = false := by simpa using hq
  have KD := Lib.hid (bd0P w)
  clear h hq
  go_enter Try.func79, Try.ntmps79
  go_wp2_with fail
  go_region_held3 (fun w' => True) (first | trivial)
    (first
      | (go_at_call 65; (with_reducible refine (SM.out _).mono ?_); rintro e w1 ⟨rfl, hb⟩; (have K1 := Lib.hid (KD.out.trans (hb.mono KD.out.size))); clear hb))
  rename_i hHeld
  clear hHeld
  go_wp2
  go_ret3
  exact ⟨rfl, K1.out⟩
theorem ba_at (b : List UInt8) (i : Nat) (h' : i < (⟨b.toArray⟩ : ByteArray).size) : ((⟨b.toArray⟩ : ByteArray)[i]'h').toNat = at8 b i := by
  have h : i < b.length := by rw [str_size] at h'; exact h'
  unfold at8
  rw [List.getElem?_eq_getElem h]
  simp [ByteArray.getElem_eq_getElem_data]
theorem at8_lt (b : List UInt8) (i : Nat) : at8 b i < 256 := by unfold at8; exact (b[i]?.getD 0).toNat_lt
set_option maxHeartbeats 2000000 in
set_option maxRecDepth 100000 in
theorem open_form1 (b : List UInt8) (w : World) (h : b.length = 128) (hq : sumT (b.take 124) = b.drop 124) (hn : sealOk (at8 b 2) (openT b).length = false) :
    Calls Try.prog 79 #[.string ⟨b.toArray⟩] w fun e w' => e = .returned (.tuple #[.int .i64 0, .string ⟨#[]⟩, .int .i64 2]) ∧ Below w.heap.size w w' := by
  have hs := Lib.hid (str_size b)
  have d1 : ((b.length : Int) == 128) = true := by simp; omega
  have d2 : ((b.length : Int) != 128) = false := by simp; omega
  have l0 : b.length ≤ 128 := by omega
  have l1 : 128 ≤ b.length := by omega
  have l2 : (124 : Int) ≤ (b.length : Int) := by omega
  have e1 := ext_take b 124
  have e2 := ext_drop b 124
  have SM := Lib.hid (fun W => sumText_any (b.take 124) W (by simp; omega))
  have g2 := ba_at b 2
  have g3 := ba_at b 3
  have k2l := at8_lt b 2
  have k3l := at8_lt b 3
  have v2 : IntKind.i64.wrap (at8 b 2 : Int) = (at8 b 2 : Int) := IntWalk.i64_in _ (by omega)
  have v3 : IntKind.i64.wrap (at8 b 3 : Int) = (at8 b 3 : Int) := IntWalk.i64_in _ (by omega)
  have i1 : ((2 : Nat) : Int) < (b.length : Int) := by omega
  have i2 : ((3 : Nat) : Int) < (b.length : Int) := by omega
  have i3 : 2 < b.length := by omega
  have i4 : 3 < b.length := by omega
  have e3 : (⟨(b.take 124).toArray⟩ : ByteArray).extract 4 (b.take 124).length = ⟨((b.take 124).drop 4).toArray⟩ := ext_drop _ 4
  have e4 : (⟨((b.take 124).drop 4).toArray⟩ : ByteArray).extract 0 (min (at8 b 3 : Int) (((b.take 124).drop 4).length : Int)).toNat = ⟨(openT b).toArray⟩ := by
    rw [ext_take, show (min (at8 b 3 : Int) (((b.take 124).drop 4).length : Int)).toNat = min (at8 b 3) ((b.take 124).drop 4).length by omega]
    unfold openT
    rw [← List.take_take, List.take_of_length_le (l := (b.take 124).drop 4) (Nat.le_refl _)]
  have p1 : (b.take 124).length = 124 := by simp; omega
  have p2 : ((b.take 124).drop 4).length = 120 := by simp; omega
  have p3 : 4 ≤ (b.take 124).length := by omega
  have p4 : (4 : Int) ≤ ((b.take 124).length : Int) := by omega
  have P1 := Lib.hid p1
  have P2 := Lib.hid p2
  clear p1 p2
  generalize b.take 124 = p at *
  generalize p.drop 4 = r at *
  generalize b.drop 124 = q at *
  have hqb : (sumT p == q) = true := by simpa using hq
  have KD := Lib.hid (bd0P w)
  have SE := Lib.hid (fun W => seal_no (at8 b 2 : Int) (openT b) W hn (by have := openT_len b; omega))
  clear hn
  clear h hq
  go_enter Try.func79, Try.ntmps79
  go_wp2_with fail
  go_region_held3 (fun w' => True) (first | trivial)
    (first
      | (go_at_call 65; (with_reducible refine (SM.out _).mono ?_); rintro e w1 ⟨rfl, hb⟩; (have K1 := Lib.hid (KD.out.trans (hb.mono KD.out.size))); clear hb))
  rename_i hHeld
  clear hHeld
  go_wp2_with fail
  go_region_held3 (fun w' => True) (first | trivial) (fail)
  all_goals (rename_i hHeld)
  all_goals (clear hHeld)
  all_goals (go_wp2_with fail)
  all_goals (refine (SE.out _).mono ?_)
  all_goals (rintro e w2 ⟨rfl, rfl⟩)
  all_goals (go_wp2)
  all_goals (go_ret3)
  all_goals (exact ⟨rfl, K1.out.trans ((bd0P _).mono K1.out.size)⟩)
set_option maxHeartbeats 2000000 in
set_option maxRecDepth 100000 in
theorem open_form2 (b : List UInt8) (w : World) (h : b.length = 128) (hq : sumT (b.take 124) = b.drop 124) (h1 : 1 ≤ at8 b 2) (h9 : at8 b 2 ≤ 9) (hn : sealL (at8 b 2) (openT b) ≠ b) :
    Calls Try.prog 79 #[.string ⟨b.toArray⟩] w fun e w' => e = .returned (.tuple #[.int .i64 0, .string ⟨#[]⟩, .int .i64 2]) ∧ Below w.heap.size w w' := by
  have hs := Lib.hid (str_size b)
  have d1 : ((b.length : Int) == 128) = true := by simp; omega
  have d2 : ((b.length : Int) != 128) = false := by simp; omega
  have l0 : b.length ≤ 128 := by omega
  have l1 : 128 ≤ b.length := by omega
  have l2 : (124 : Int) ≤ (b.length : Int) := by omega
  have e1 := ext_take b 124
  have e2 := ext_drop b 124
  have SM := Lib.hid (fun W => sumText_any (b.take 124) W (by simp; omega))
  have g2 := ba_at b 2
  have g3 := ba_at b 3
  have k2l := at8_lt b 2
  have k3l := at8_lt b 3
  have v2 : IntKind.i64.wrap (at8 b 2 : Int) = (at8 b 2 : Int) := IntWalk.i64_in _ (by omega)
  have v3 : IntKind.i64.wrap (at8 b 3 : Int) = (at8 b 3 : Int) := IntWalk.i64_in _ (by omega)
  have i1 : ((2 : Nat) : Int) < (b.length : Int) := by omega
  have i2 : ((3 : Nat) : Int) < (b.length : Int) := by omega
  have i3 : 2 < b.length := by omega
  have i4 : 3 < b.length := by omega
  have e3 : (⟨(b.take 124).toArray⟩ : ByteArray).extract 4 (b.take 124).length = ⟨((b.take 124).drop 4).toArray⟩ := ext_drop _ 4
  have e4 : (⟨((b.take 124).drop 4).toArray⟩ : ByteArray).extract 0 (min (at8 b 3 : Int) (((b.take 124).drop 4).length : Int)).toNat = ⟨(openT b).toArray⟩ := by
    rw [ext_take, show (min (at8 b 3 : Int) (((b.take 124).drop 4).length : Int)).toNat = min (at8 b 3) ((b.take 124).drop 4).length by omega]
    unfold openT
    rw [← List.take_take, List.take_of_length_le (l := (b.take 124).drop 4) (Nat.le_refl _)]
  have p1 : (b.take 124).length = 124 := by simp; omega
  have p2 : ((b.take 124).drop 4).length = 120 := by simp; omega
  have p3 : 4 ≤ (b.take 124).length := by omega
  have p4 : (4 : Int) ≤ ((b.take 124).length : Int) := by omega
  have P1 := Lib.hid p1
  have P2 := Lib.hid p2
  clear p1 p2
  generalize b.take 124 = p at *
  generalize p.drop 4 = r at *
  generalize b.drop 124 = q at *
  have hqb : (sumT p == q) = true := by simpa using hq
  have KD := Lib.hid (bd0P w)
  have hol := openT_len b
  have SE := Lib.hid (fun W => seal_yes (at8 b 2) (openT b) W (by omega) (by omega) hol)
  have hsb : (sealL (at8 b 2) (openT b) == b) = false := by simpa using hn
  clear hol h1 h9 hn
  clear h hq
  go_enter Try.func79, Try.ntmps79
  go_wp2_with fail
  go_region_held3 (fun w' => True) (first | trivial)
    (first
      | (go_at_call 65; (with_reducible refine (SM.out _).mono ?_); rintro e w1 ⟨rfl, hb⟩; (have K1 := Lib.hid (KD.out.trans (hb.mono KD.out.size))); clear hb))
  rename_i hHeld
  clear hHeld
  go_wp2_with fail
  go_region_held3 (fun w' => True) (first | trivial) (fail)
  all_goals (rename_i hHeld)
  all_goals (clear hHeld)
  all_goals (go_wp2_with fail)
  all_goals (refine (SE.out _).mono ?_)
  all_goals (rintro e w2 ⟨rfl, hb⟩)
  all_goals (have K2 := Lib.hid (K1.out.trans (((bd0P _).trans (hb.mono (bd0P _).size)).mono K1.out.size)))
  all_goals (clear hb)
  all_goals (go_wp2)
  all_goals (go_ret3)
  all_goals (exact ⟨rfl, K2.out⟩)
set_option maxHeartbeats 2000000 in
set_option maxRecDepth 100000 in
theorem open_ok (b : List UInt8) (w : World) (h : b.length = 128) (hq : sumT (b.take 124) = b.drop 124) (h1 : 1 ≤ at8 b 2) (h9 : at8 b 2 ≤ 9) (hn : sealL (at8 b 2) (openT b) = b) :
    Calls Try.prog 79 #[.string ⟨b.toArray⟩] w fun e w' => e = .returned (.tuple #[.int .i64 (at8 b 2 : Nat), .string ⟨(openT b).toArray⟩, .int .i64 0]) ∧ Below w.heap.size w w' := by
  have hs := Lib.hid (str_size b)
  have d1 : ((b.length : Int) == 128) = true := by simp; omega
  have d2 : ((b.length : Int) != 128) = false := by simp; omega
  have l0 : b.length ≤ 128 := by omega
  have l1 : 128 ≤ b.length := by omega
  have l2 : (124 : Int) ≤ (b.length : Int) := by omega
  have e1 := ext_take b 124
  have e2 := ext_drop b 124
  have SM := Lib.hid (fun W => sumText_any (b.take 124) W (by simp; omega))
  have g2 := ba_at b 2
  have g3 := ba_at b 3
  have k2l := at8_lt b 2
  have k3l := at8_lt b 3
  have v2 : IntKind.i64.wrap (at8 b 2 : Int) = (at8 b 2 : Int) := IntWalk.i64_in _ (by omega)
  have v3 : IntKind.i64.wrap (at8 b 3 : Int) = (at8 b 3 : Int) := IntWalk.i64_in _ (by omega)
  have i1 : ((2 : Nat) : Int) < (b.length : Int) := by omega
  have i2 : ((3 : Nat) : Int) < (b.length : Int) := by omega
  have i3 : 2 < b.length := by omega
  have i4 : 3 < b.length := by omega
  have e3 : (⟨(b.take 124).toArray⟩ : ByteArray).extract 4 (b.take 124).length = ⟨((b.take 124).drop 4).toArray⟩ := ext_drop _ 4
  have e4 : (⟨((b.take 124).drop 4).toArray⟩ : ByteArray).extract 0 (min (at8 b 3 : Int) (((b.take 124).drop 4).length : Int)).toNat = ⟨(openT b).toArray⟩ := by
    rw [ext_take, show (min (at8 b 3 : Int) (((b.take 124).drop 4).length : Int)).toNat = min (at8 b 3) ((b.take 124).drop 4).length by omega]
    unfold openT
    rw [← List.take_take, List.take_of_length_le (l := (b.take 124).drop 4) (Nat.le_refl _)]
  have p1 : (b.take 124).length = 124 := by simp; omega
  have p2 : ((b.take 124).drop 4).length = 120 := by simp; omega
  have p3 : 4 ≤ (b.take 124).length := by omega
  have p4 : (4 : Int) ≤ ((b.take 124).length : Int) := by omega
  have P1 := Lib.hid p1
  have P2 := Lib.hid p2
  clear p1 p2
  generalize b.take 124 = p at *
  generalize p.drop 4 = r at *
  generalize b.drop 124 = q at *
  have hqb : (sumT p == q) = true := by simpa using hq
  have KD := Lib.hid (bd0P w)
  have hol := openT_len b
  have SE := Lib.hid (fun W => seal_yes (at8 b 2) (openT b) W (by omega) (by omega) hol)
  have hsb : (sealL (at8 b 2) (openT b) == b) = true := by simpa using hn
  clear hol h1 h9 hn
  clear h hq
  go_enter Try.func79, Try.ntmps79
  go_wp2_with fail
  go_region_held3 (fun w' => True) (first | trivial)
    (first
      | (go_at_call 65; (with_reducible refine (SM.out _).mono ?_); rintro e w1 ⟨rfl, hb⟩; (have K1 := Lib.hid (KD.out.trans (hb.mono KD.out.size))); clear hb))
  rename_i hHeld
  clear hHeld
  go_wp2_with fail
  go_region_held3 (fun w' => True) (first | trivial) (fail)
  all_goals (rename_i hHeld)
  all_goals (clear hHeld)
  all_goals (go_wp2_with fail)
  all_goals (refine (SE.out _).mono ?_)
  all_goals (rintro e w2 ⟨rfl, hb⟩)
  all_goals (have K2 := Lib.hid (K1.out.trans (((bd0P _).trans (hb.mono (bd0P _).size)).mono K1.out.size)))
  all_goals (clear hb)
  all_goals (go_wp2)
  all_goals (go_ret3)
  all_goals (exact ⟨rfl, K2.out⟩)
/-- page.Open. -/
theorem open_any (b : List UInt8) (w : World) :
    Calls Try.prog 79 #[.string ⟨b.toArray⟩] w fun e w' => e = .returned (.tuple #[.int .i64 (openK b : Nat), .string ⟨(openS b).toArray⟩, .int .i64 (openE b : Nat)]) ∧ Below w.heap.size w w' := by
  by_cases h : b.length = 128
  · by_cases hq : sumT (b.take 124) = b.drop 124
    · cases hn : openOk b
      · have e0 : openE b = 2 := by unfold openE; rw [if_neg (by simpa using h), if_neg (by simpa using hq), hn]; rfl
        have ek : openK b = 0 := by unfold openK; rw [e0]; rfl
        have es : openS b = [] := by unfold openS; rw [e0]; rfl
        rw [e0, ek, es]
        by_cases hr : 1 ≤ at8 b 2 ∧ at8 b 2 ≤ 9
        · refine open_form2 b w h hq hr.1 hr.2 (fun he => ?_)
          unfold openOk at hn
          rw [he] at hn
          simp [hr.1, hr.2] at hn
        · refine open_form1 b w h hq ?_
          unfold sealOk
          simp only [Bool.and_eq_false_iff, decide_eq_false_iff_not]
          omega
      · have e0 : openE b = 0 := by unfold openE; rw [if_neg (by simpa using h), if_neg (by simpa using hq), hn]; rfl
        have ek : openK b = at8 b 2 := by unfold openK; rw [e0]; rfl
        have es : openS b = openT b := by unfold openS; rw [e0]; rfl
        rw [e0, ek, es]
        unfold openOk at hn
        simp only [Bool.and_eq_true, decide_eq_true_eq, beq_iff_eq] at hn
        exact open_ok b w h hq hn.1.1 hn.1.2 hn.2
    · have e0 : openE b = 10 := by unfold openE; rw [if_neg (by simpa using h), if_pos hq]
      have ek : openK b = 0 := by unfold openK; rw [e0]; rfl
      have es : openS b = [] := by unfold openS; rw [e0]; rfl
      rw [e0, ek, es]
      exact open_sum b w h hq
  · have e0 : openE b = 2 := by unfold openE; rw [if_pos h]
    have ek : openK b = 0 := by unfold openK; rw [e0]; rfl
    have es : openS b = [] := by unfold openS; rw [e0]; rfl
    rw [e0, ek, es]
    exact (open_short b w h).mono fun _ _ ⟨h1, h2⟩ => ⟨h1, by rw [← h2]; exact Below.refl _ _⟩
end Go.Proofs.Ytmgdpchjimlmeaa
